"""Surroundings: what is put round a row, told from the inside outwards."""

from everrows.steps import entry_of, is_steps, moved, step_answers
from everrows.tables import both_of, left_of, mixed_of, right_of


def is_surroundings(value):
    """Whether any value is surroundings."""
    return isinstance(value, tuple) and all(_is_one(part) for part in value)


def _is_one(value):
    """Whether any value is one of surroundings."""
    if value in (("right",), ("left",)):
        return True
    if not isinstance(value, tuple) or len(value) != 2:
        return False
    word, told = value
    if word == "mixed":
        return isinstance(told, tuple) and all(is_steps(steps) for steps in told)
    return word in ("ahead", "behind") and is_steps(told)


def rows_round(surroundings):
    """The list of the steps of all rows in surroundings."""
    return [steps for part in surroundings for steps in _rows_of(part)]


def _rows_of(part):
    """The tuple of the steps of the rows in one of surroundings."""
    return part[1] if part[0] == "mixed" else part[1:]


def put_round(steps, surroundings):
    """The steps of a row with surroundings put round it."""
    entries = list(steps)
    for part in surroundings:
        inner, lasts = len(entries) - 1, []
        for row in _rows_of(part):
            names = list(range(len(entries), len(entries) + len(row)))
            entries.extend([moved(entry, names) for entry in row])
            lasts.append(names[-1])
        entries.append(_entry_round(part[0], inner, lasts))
    return tuple(entries)


def _entry_round(word, inner, lasts):
    """The entry of one of surroundings, of what was there and of the last entries of its rows."""
    if word == "ahead":
        return entry_of("join", [lasts[0], inner])
    if word == "behind":
        return entry_of("join", [inner, lasts[0]])
    return entry_of("mix", [inner, *lasts]) if word == "mixed" else entry_of(word, [inner])


def answer_round(reader, s, surroundings):
    """The answer that comes if surroundings are put round a row with the answer s."""
    found = s
    for part in surroundings:
        answers = [step_answers(reader, row)[-1] for row in _rows_of(part)]
        found = dealt_round(reader[0], found, part[0], answers)
    return found


def dealt_round(table, s, word, answers):
    """What comes of a row with the answer s by one of surroundings of this word, of rows with these answers."""
    if word == "ahead":
        return both_of(table, answers[0], s)
    if word == "behind":
        return both_of(table, s, answers[0])
    if word == "mixed":
        return mixed_of(table, [s, *answers])
    return right_of(table, s) if word == "right" else left_of(table, s)
