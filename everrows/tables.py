"""Tables: what comes of answers that are dealt with."""

from everrows.lots import are_answers, lot_of, number_of

MOST_ANSWERS = 6


def is_table(value):
    """Whether any value is a table, lawful or not."""
    if not isinstance(value, tuple) or len(value) != 4 or not isinstance(value[0], tuple):
        return False
    both, right, left, mixed = value
    n = len(both)
    if not 1 <= n <= MOST_ANSWERS or not all(are_answers(part, n) for part in (*both, right, left, mixed)):
        return False
    return all(len(part) == n for part in (*both, right, left)) and len(mixed) == (1 << n) - 1


def count_of(table):
    """How many answers a table has."""
    return len(table[0])


def both_of(table, s, t):
    """What comes of a row with the answer s and, behind it, one with the answer t."""
    return table[0][s][t]


def right_of(table, s):
    """What comes of rows with the answer s endlessly often to the right."""
    return table[1][s]


def left_of(table, s):
    """What comes of rows with the answer s endlessly often to the left."""
    return table[2][s]


def mixed_of(table, answers):
    """What comes of rows with these answers, mixed."""
    return table[3][number_of(lot_of(answers))]


def joined_of(table, answers):
    """What comes of rows with these answers, one behind another, from the left."""
    found = answers[0]
    for s in answers[1:]:
        found = both_of(table, found, s)
    return found


def power_of(table, s, k):
    """What comes of k rows with the answer s, one behind another, k as great as one likes."""
    powers, first = _powers(table, s)
    if k >= first:
        k = first + (k - first) % (len(powers) - first + 1)
    return powers[k - 1]


def round_of(table, s):
    """(first, length): from the power first on the powers of s come again, length by length."""
    powers, first = _powers(table, s)
    return first, len(powers) - first + 1


def still_power(table, s):
    """The one power t of s for which both(t, t) is t."""
    first, length = round_of(table, s)
    return power_of(table, s, first + (-first) % length)


def _powers(table, s):
    """The list of the powers of s, from the first one on, until one comes again, and the number of that one."""
    powers = [s]
    following = both_of(table, s, s)
    while following not in powers:
        powers.append(following)
        following = both_of(table, following, s)
    return powers, powers.index(following) + 1
