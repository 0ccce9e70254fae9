"""Answers and lots of answers."""

from everrows.common import is_number


def is_answer(value, n):
    """Whether any value is an answer of a table with n answers."""
    return is_number(value) and 0 <= value < n


def are_answers(value, n):
    """Whether any value is a tuple of answers of a table with n answers, in any order, () too."""
    return isinstance(value, tuple) and all(is_answer(part, n) for part in value)


def ascend(things):
    """Whether things ascend, each once."""
    return all(one < other for one, other in zip(things, things[1:]))


def lots(n):
    """The list of all lots of n answers, by their numbers."""
    return lots_within(list(range(n)))


def lots_within(lot):
    """The list of all lots of answers of a lot, by their numbers."""
    found = [()]
    for s in lot:
        # A lot with a greater answer has a greater number than each lot without it.
        found = found + [(*one, s) for one in found]
    return found[1:]


def number_of(lot):
    """The number of a lot."""
    return sum([1 << s for s in lot]) - 1


def is_lot(value, n):
    """Whether any value is a lot of a table with n answers."""
    return are_answers(value, n) and len(value) > 0 and ascend(value)


def lot_of(answers):
    """The lot of a list of answers, in any order, each as often as one likes."""
    return tuple(sorted(set(answers)))
