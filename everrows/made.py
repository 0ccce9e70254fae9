"""Readers made: of what they shall tell of rows, and of other readers."""

from everrows.errors import TooMany
from everrows.exchanged import turned
from everrows.lots import lots
from everrows.pairs import pairs_reached
from everrows.parted import table_of_pairs
from everrows.tables import MOST_ANSWERS, count_of

# The answer, by the table of meetings, of rows in which somewhere two places meet.
MET = 4


def has_letter(letters, c):
    """A reader that says yes to rows with a place of the letter c."""
    return count_to(letters, c, 1)


def begins_with(letters, c):
    """A reader that says yes to rows with a first place, and c there."""
    return _reader(letters, _table_of_beginnings(3), lambda letter: 1 if letter == c else 2, (1,))


def ends_with(letters, c):
    """A reader that says yes to rows with a last place, and c there."""
    return turned(begins_with(letters, c))


def has_first(letters):
    """A reader that says yes to rows with a first place."""
    return _reader(letters, _table_of_beginnings(2), lambda letter: 1, (1,))


def has_last(letters):
    """A reader that says yes to rows with a last place."""
    return turned(has_first(letters))


def neighbours(letters, c, d):
    """A reader that says yes to rows in which somewhere a place of d is just behind a place of c."""
    return _reader(letters, _table_of_meetings(), lambda letter: 2 * int(letter == d) + int(letter == c), (MET,))


def count_to(letters, c, n):
    """A reader that says yes to rows with n places of c or more."""
    answers = list(range(n + 1))
    again = tuple([min(s * n, n) for s in answers])
    both = tuple([tuple([min(s + t, n) for t in answers]) for s in answers])
    table = both, again, again, tuple([again[max(lot)] for lot in lots(n + 1)])
    return _reader(letters, table, lambda letter: int(letter == c), (n,))


def none_near(letters):
    """A reader that says yes to rows in which between any two places there is another one."""
    return _reader(letters, _table_of_meetings(), lambda letter: 3, (0, 1, 2, 3))


def _reader(letters, table, answer_of, yes):
    return table, tuple([(letter, answer_of(letter)) for letter in sorted(letters)]), yes


def _table_of_beginnings(n):
    """The table whose answers tell how a row begins, 0 that it has no first place."""
    answers = list(range(n))
    return tuple([(s,) * n for s in answers]), tuple(answers), (0,) * n, tuple([0 for _ in lots(n)])


def _table_of_meetings():
    """The table whose answers below MET are 2 if the row begins as is asked for and 1 if it ends so, together.

    What ends so and what begins so, behind it, meet.
    """
    answers = list(range(MET + 1))
    both = tuple([tuple([MET if MET in (s, t) or (s & 1 and t & 2) else (s & 2) + (t & 1) for t in answers])
                  for s in answers])
    right = tuple([MET if both[s][s] == MET else s & 2 for s in answers])
    left = tuple([MET if both[s][s] == MET else s & 1 for s in answers])
    return both, right, left, tuple([MET if MET in lot else 0 for lot in lots(MET + 1)])


def negated(reader):
    """The reader that says yes to just all other rows."""
    table, letters, yes = reader
    return table, letters, tuple([s for s in range(count_of(table)) if s not in yes])


def beside(one, other, word):
    """The reader that says yes to a row if both do ("and"), or if at least one does ("or"); TooMany above six pairs."""
    pairs = list(pairs_reached(one, other))
    if len(pairs) > MOST_ANSWERS:
        raise TooMany()
    least = 2 if word == "and" else 1
    return (
        table_of_pairs(one[0], other[0], pairs),
        tuple([(letter, pairs.index((s, u))) for (letter, s), (_, u) in zip(one[1], other[1])]),
        tuple([name for name, (s, u) in enumerate(pairs) if int(s in one[2]) + int(u in other[2]) >= least]),
    )
