"""Whether two answers ever matter: surroundings that part them, or a fair sharing out of the answers."""

from everrows.common import is_paper
from everrows.lots import ascend, is_lot, lots_within
from everrows.reached import reached
from everrows.steps import lacking_letter
from everrows.surrounding import answer_round, dealt_round, is_surroundings, rows_round
from everrows.tables import count_of


def part(reader, s, t):
    """("parts", surroundings), by which just one of two answers comes to yes, or ("alike", classes), fair."""
    steps = reached(reader)
    found = _partings(reader, steps)
    return ("parts", found[s, t]) if (s, t) in found else ("alike", _shared_out(steps, found))


def classes(reader):
    """The fair sharing out with the fewest classes."""
    steps = reached(reader)
    return _shared_out(steps, _partings(reader, steps))


def _partings(reader, steps):
    """The dict that has surroundings for each pair of answers that some part, steps telling rows with these answers."""
    found = {(s, t): () for s in steps for t in steps if (s in reader[2]) != (t in reader[2])}
    many = 0
    while many < len(found):
        many = len(found)
        found = {**_one_more_round(reader[0], steps, found), **found}
    return found


def _one_more_round(table, steps, found):
    """The dict that has surroundings for each pair that one thing round it brings to a pair that is parted already."""
    more = {}
    for word, answers in _single(list(steps)):
        come = {s: dealt_round(table, s, word, answers) for s in steps}
        for s in steps:
            for t in steps:
                if (come[s], come[t]) in found:
                    more.setdefault((s, t), (_told(word, answers, steps), *found[come[s], come[t]]))
    return more


def _single(lot):
    """The list of (word, answers) of all that is put round a row at once, its rows having answers of a lot."""
    found = [(word, (u,)) for word in ("ahead", "behind") for u in lot]
    found.extend([("right", ()), ("left", ()), ("mixed", ())])
    found.extend([("mixed", answers) for answers in lots_within(lot)])
    return found


def _told(word, answers, steps):
    """One thing put round a row, its rows told by steps."""
    rows = tuple([steps[u] for u in answers])
    return (word, rows) if word == "mixed" else (word, *rows)


def _shared_out(lot, partings):
    """The classes of the answers of a lot, in each those that nothing parts."""
    found = []
    for s in lot:
        alike = tuple([t for t in lot if (s, t) not in partings])
        if alike[0] == s:
            found.append(alike)
    return tuple(found)


def judge_part(reader, s, t, value):
    """None if any value is what part may return, else the first fault."""
    if is_paper(value, "parts") and is_surroundings(value[1]):
        return _judged_surroundings(reader, s, t, value[1])
    if is_paper(value, "alike") and _are_classes(value[1], count_of(reader[0])):
        return _judged_classes(reader, s, t, value[1])
    return ("form",)


def _are_classes(value, n):
    """Whether any value is a tuple, not (), of lots of n answers with ascending least answers."""
    if not isinstance(value, tuple) or len(value) == 0:
        return False
    return all(is_lot(lot, n) for lot in value) and ascend([lot[0] for lot in value])


def _judged_surroundings(reader, s, t, surroundings):
    for steps in rows_round(surroundings):
        letter = lacking_letter(reader, steps)
        if letter is not None:
            return "letter", letter
    a, b = answer_round(reader, s, surroundings), answer_round(reader, t, surroundings)
    return ("answers", (a, b)) if (a in reader[2]) == (b in reader[2]) else None


def _judged_classes(reader, s, t, sharing):
    lot = list(reached(reader))
    for x in range(count_of(reader[0])):
        if len([here for here in sharing if x in here]) != (1 if x in lot else 0):
            return "reached", x
    for n, here in enumerate(sharing):
        if len([x for x in here if x in reader[2]]) not in (0, len(here)):
            return "yes", n
    home = {x: n for n, here in enumerate(sharing) for x in here}
    return ("apart",) if home[s] != home[t] else _first_unlike(reader[0], lot, sharing, home)


def _first_unlike(table, lot, sharing, home):
    """The first fault of a sharing out that is not fair, home telling the class of each answer."""
    for here in sharing:
        for x, y in zip(here, here[1:]):
            for word, answers in _single(lot):
                one, other = dealt_round(table, x, word, answers), dealt_round(table, y, word, answers)
                if home[one] != home[other]:
                    return (word, x, y, answers) if word == "mixed" else (word, x, y, *answers)
    return None
