"""Pairs of answers, those of one row by two readers of the same letters."""

from everrows.closed import first_out
from everrows.growing import steps_by_dealings
from everrows.lots import lot_of, lots_within, number_of
from everrows.steps import step_answers
from everrows.tables import both_of, left_of, mixed_of, right_of


def pair_of(one, other, steps):
    """The pair of the row that steps tell."""
    return step_answers(one, steps)[-1], step_answers(other, steps)[-1]


def letter_pairs(one, other):
    """The list of (letter, its pair), letters ascending."""
    return [(letter, (s, u)) for (letter, s), (_, u) in zip(one[1], other[1])]


def pairs_reached(one, other):
    """The dict that has for each pair of some row steps for such a row."""
    return steps_by_dealings(letter_pairs(one, other), lambda pairs: pair_dealings(one, other, pairs), pairs_dealt)


def leads_out(one, other, pairs):
    """The first dealing that leads out of a lot of pairs, None if it is closed."""
    return first_out(pair_dealings(one, other, pairs), pairs)


def pair_dealings(one, other, pairs):
    """The list of (dealing, the pair that comes) of all dealings of pairs, in their order."""
    table, beside = one[0], other[0]
    found = []
    for s, u in pairs:
        found.extend([(("both", (s, u), (t, v)), (both_of(table, s, t), both_of(beside, u, v))) for t, v in pairs])
    found.extend([(("right", (s, u)), (right_of(table, s), right_of(beside, u))) for s, u in pairs])
    found.extend([(("left", (s, u)), (left_of(table, s), left_of(beside, u))) for s, u in pairs])
    for firsts in lots_within(lot_of([s for s, _ in pairs])):
        m = mixed_of(table, firsts)
        for seconds in _covered_with(firsts, pairs):
            found.append((("mixed", firsts, seconds), (m, mixed_of(beside, seconds))))
    return found


def _covered_with(firsts, pairs):
    """The list of all lots that, with the lot firsts, are covered by pairs, by their numbers."""
    numbers, found = {}, []
    for s, u in pairs:
        if s in firsts:
            numbers[u] = numbers.get(u, 0) + (1 << s)
    for seconds in lots_within(sorted(numbers)):
        # Each second stands beside one of the firsts; it is left to ask whether each first stands beside a second.
        met = 0
        for u in seconds:
            met = met | numbers[u]
        if met == number_of(firsts) + 1:
            found.append(seconds)
    return found


def pairs_dealt(dealing, pairs):
    """The list of those of the pairs known so far with which a dealing deals."""
    if dealing[0] != "mixed":
        return dealing[1:]
    _, firsts, seconds = dealing
    return [(s, u) for s, u in pairs if s in firsts and u in seconds]
