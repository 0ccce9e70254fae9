"""Which answers rows have: each with steps for a row, or a lot of answers that nothing leaves."""

from everrows.closed import closed_fault, dealings_of, layers
from everrows.common import is_paper
from everrows.growing import steps_by_dealings
from everrows.lots import is_lot, lot_of
from everrows.parted import closed_lot
from everrows.steps import is_steps, lacking_letter, step_answers
from everrows.tables import count_of


def reached(reader):
    """The dict that has for each reached answer steps whose answer it is."""
    table, letters, _ = reader
    return steps_by_dealings(letters, lambda lot: dealings_of(table, lot), answers_dealt)


def answers_dealt(dealing, _lot):
    """The tuple of the answers with which a dealing deals."""
    return dealing[1] if dealing[0] == "mixed" else dealing[1:]


def turns(reader):
    """The list of the layers of the lot of the letters' answers."""
    table, letters, _ = reader
    return layers(table, lot_of([s for _, s in letters]))


def spare(reader):
    """The ascending tuple of the letters of which each, left out alone, leaves the same answers reached."""
    table, letters, _ = reader
    if len(letters) == 1:
        return ()
    whole, found = closed_lot(table, [s for _, s in letters]), []
    for letter, _ in letters:
        if closed_lot(table, [s for other, s in letters if other != letter]) == whole:
            found.append(letter)
    return tuple(found)


def row_or_lot(reader, answers):
    """("row", steps) whose answer is one of these, or ("lot", lot), a closed lot of all letters without them."""
    return _found(reader, answers, "row", "lot")


def always(reader):
    """("always", lot), a closed lot of all letters in yes, or ("not", steps) whose answer is not in yes."""
    return _found(reader, _others(reader, reader[2]), "not", "always")


def _others(reader, answers):
    """The tuple of all answers of a reader's table but these."""
    return tuple([s for s in range(count_of(reader[0])) if s not in answers])


def _found(reader, answers, row_word, lot_word):
    found = reached(reader)
    for s in answers:
        if s in found:
            return row_word, found[s]
    return lot_word, tuple(sorted(found))


def judge_asked(reader, answers, value):
    """None if any value is what row_or_lot may return, else the first fault."""
    return _judged(reader, answers, value, ("row", "answer"), ("lot", "asked"))


def judge_always(reader, value):
    """None if any value is what always may return, else the first fault."""
    return _judged(reader, _others(reader, reader[2]), value, ("not", "yes"), ("always", "odd"))


def _judged(reader, answers, value, of_row, of_lot):
    """The first fault of a paper, of_row and of_lot telling its two words and those that blame an answer."""
    if is_paper(value, of_row[0]) and is_steps(value[1]):
        return _judged_steps(reader, answers, value[1], of_row[1])
    if is_paper(value, of_lot[0]) and is_lot(value[1], count_of(reader[0])):
        return _judged_lot(reader, answers, value[1], of_lot[1])
    return ("form",)


def _judged_steps(reader, answers, steps, fault):
    letter = lacking_letter(reader, steps)
    if letter is not None:
        return "letter", letter
    s = step_answers(reader, steps)[-1]
    return None if s in answers else (fault, s)


def _judged_lot(reader, answers, lot, fault):
    for letter, s in reader[1]:
        if s not in lot:
            return "lacks", letter
    for s in lot:
        if s in answers:
            return fault, s
    dealing = closed_fault(reader[0], lot)
    return None if dealing is None else ("out", dealing)
