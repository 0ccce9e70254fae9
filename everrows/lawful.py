"""The nine rules of lawful tables."""

from everrows.common import is_number
from everrows.lots import is_lot, lot_of, lots, lots_within
from everrows.tables import both_of, count_of, joined_of, left_of, mixed_of, right_of


def _keeps_chains(table, things):
    a, b, c = things
    return joined_of(table, [a, b, c]) == both_of(table, a, both_of(table, b, c))


def _turns_right(table, things):
    a, b = things
    return right_of(table, both_of(table, a, b)) == both_of(table, a, right_of(table, both_of(table, b, a)))


def _repeats_right(table, things):
    a, k = things
    return right_of(table, joined_of(table, [a] * k)) == right_of(table, a)


def _turns_left(table, things):
    a, b = things
    return left_of(table, both_of(table, a, b)) == both_of(table, left_of(table, both_of(table, b, a)), b)


def _repeats_left(table, things):
    a, k = things
    return left_of(table, joined_of(table, [a] * k)) == left_of(table, a)


def _mixes_doubled(table, things):
    lot, *parts = things
    m = mixed_of(table, lot)
    return joined_of(table, [m, *parts, m]) == m


def _mixes_right(table, things):
    lot, *parts = things
    m = mixed_of(table, lot)
    return right_of(table, joined_of(table, [m, *parts])) == m


def _mixes_left(table, things):
    lot, *parts = things
    m = mixed_of(table, lot)
    return left_of(table, joined_of(table, [*parts, m])) == m


def _mixes_mixed(table, things):
    lot, other = things
    return mixed_of(table, other) == mixed_of(table, lot)


# Rule number 1 first.
RULES = (_keeps_chains, _turns_right, _repeats_right, _turns_left, _repeats_left,
         _mixes_doubled, _mixes_right, _mixes_left, _mixes_mixed)


def holds(table, number, things):
    """Whether a case of the rule with a number holds."""
    rule = RULES[number - 1]
    return rule(table, things)


def _cases(table, number):
    """The list of the things of all cases of the rule with a number, in their order."""
    n = count_of(table)
    answers = list(range(n))
    if number == 1:
        return [(a, b, c) for a in answers for b in answers for c in answers]
    if number in (2, 4):
        return [(a, b) for a in answers for b in answers]
    if number in (3, 5):
        return [(a, k) for a in answers for k in range(2, n + 2)]
    if number == 9:
        return [(lot, other) for lot in lots(n) for other in _lots_with_edges(table, lot)]
    found = []
    for lot in lots(n):
        found.append((lot,))
        found.extend([(lot, c) for c in lot])
    return found


def _lots_with_edges(table, lot):
    """The list of all lots that, mixed, come to what the lot comes to by rule 9."""
    m = mixed_of(table, lot)
    edges = [m]
    for c in lot:
        edges.extend([both_of(table, c, m), both_of(table, m, c)])
        edges.extend([joined_of(table, [c, m, d]) for d in lot])
    return [other for other in lots_within(lot_of([*lot, *edges])) if any(s in edges for s in other)]


def first_broken(table):
    """(number, things) of the first case that does not hold, of the rule with the least number; None if lawful."""
    for number in range(1, len(RULES) + 1):
        for things in _cases(table, number):
            if not holds(table, number, things):
                return number, things
    return None


def broken_rules(table):
    """The ascending list of the numbers of all rules that do not hold."""
    return [number for number in range(1, len(RULES) + 1)
            if not all(holds(table, number, things) for things in _cases(table, number))]


def judge_broken(table, value):
    """None if any value tells rightly whether and where the table is not lawful, else the first fault."""
    if value is None:
        return None if first_broken(table) is None else ("lawless",)
    if not _is_case(table, value):
        return ("form",)
    number, things = value
    return ("holds",) if holds(table, number, things) else None


def _is_case(table, value):
    """Whether any value is a tuple of the number of a rule and the things of one of its cases."""
    if not isinstance(value, tuple) or len(value) != 2:
        return False
    number, things = value
    if not is_number(number) or not 1 <= number <= len(RULES) or not isinstance(things, tuple):
        return False
    # True and lists are looked for first: for Python (True,) is equal to (1,).
    n = count_of(table)
    if not all(is_number(thing) or is_lot(thing, n) for thing in things):
        return False
    return things in _cases(table, number)
