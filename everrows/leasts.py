"""Least readers: no answer that is not reached, and no two that never matter."""

from everrows.agreeing import agree, judge_agree
from everrows.apart import classes
from everrows.closed import dealings_of
from everrows.common import is_paper
from everrows.lots import are_answers, lot_of
from everrows.pairs import pairs_reached
from everrows.parted import renumbered, table_named
from everrows.tables import count_of


def least(reader):
    """The least reader that says yes to the same rows."""
    table, letters, yes = reader
    sharing = classes(reader)
    names = {s: name for name, lot in enumerate(sharing) for s in lot}
    return (
        table_named(table, [lot[0] for lot in sharing], names),
        tuple([(letter, names[s]) for letter, s in letters]),
        tuple([name for name, lot in enumerate(sharing) if lot[0] in yes]),
    )


def is_least(reader):
    """Whether a reader is its own least reader."""
    return least(reader) == reader


def called(reader, names):
    """The reader whose answers are called names[s] for s."""
    table, letters, yes = reader
    return (
        renumbered(table, names),
        tuple([(letter, names[s]) for letter, s in letters]),
        lot_of([names[s] for s in yes]),
    )


def rename(one, other):
    """("same", names), of one's least reader for other's, or ("parts", steps) of a row to which just one says yes."""
    told = agree(one, other)
    if told[0] == "parts":
        return told
    # Of readers that agree each answer of the one least reader stands beside just one of the other's.
    return "same", tuple([u for _, u in sorted(pairs_reached(least(one), least(other)))])


def judge_rename(one, other, value):
    """None if any value is what rename may return, else the first fault."""
    if is_paper(value, "parts"):
        return judge_agree(one, other, value)
    if is_paper(value, "same"):
        mine, others = least(one), least(other)
        n = count_of(others[0])
        if count_of(mine[0]) == n and are_answers(value[1], n) and sorted(value[1]) == list(range(n)):
            return _judged_names(mine, others, value[1])
    return ("form",)


def _judged_names(mine, others, names):
    """The first fault of names that are to lead one least reader to another one, None if there is none."""
    answers = tuple(range(len(names)))
    theirs = called(others, [names.index(u) for u in answers])
    for (letter, s), (_, t) in zip(mine[1], theirs[1]):
        if s != t:
            return "lacks", letter
    for s in answers:
        if (s in mine[2]) != (s in theirs[2]):
            return "yes", s
    for (dealing, s), (_, t) in zip(dealings_of(mine[0], answers), dealings_of(theirs[0], answers)):
        if s != t:
            return dealing
    return None
