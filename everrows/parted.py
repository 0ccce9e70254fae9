"""Tables made of tables: renamed, cut down to a closed lot, put side by side."""

from everrows.closed import closed_fault, layers
from everrows.errors import NotClosed, TooMany
from everrows.lots import lot_of, lots
from everrows.tables import MOST_ANSWERS, both_of, count_of, left_of, mixed_of, right_of


def renumbered(table, order):
    """The table in which each answer s has the name order[s]."""
    return table_named(table, sorted(range(len(order)), key=lambda s: order[s]), order)


def table_named(table, answers, names):
    """The table whose answers stand for these answers, in their order, names[s] being the name of what comes as s."""
    return (
        tuple([tuple([names[both_of(table, s, t)] for t in answers]) for s in answers]),
        tuple([names[right_of(table, s)] for s in answers]),
        tuple([names[left_of(table, s)] for s in answers]),
        tuple([names[mixed_of(table, [answers[name] for name in lot])] for lot in lots(len(answers))]),
    )


def closed_lot(table, answers):
    """The least closed lot that has all answers of a list."""
    return layers(table, lot_of(answers))[-1]


def part_of(table, lot):
    """The table of the answers of a closed lot, named 0, 1, .. in their order; NotClosed(fault) if it is not closed."""
    fault = closed_fault(table, lot)
    if fault is not None:
        raise NotClosed(fault)
    return table_named(table, lot, {s: name for name, s in enumerate(lot)})


def side_by_side(one, other):
    """The table of all pairs of answers of two tables; TooMany() above six."""
    many = count_of(other)
    if count_of(one) * many > MOST_ANSWERS:
        raise TooMany()
    pairs = [(s, t) for s in range(count_of(one)) for t in range(many)]
    both = [[both_of(one, s, u) * many + both_of(other, t, v) for u, v in pairs] for s, t in pairs]
    mixed = []
    for lot in lots(len(pairs)):
        firsts, seconds = [pairs[k][0] for k in lot], [pairs[k][1] for k in lot]
        mixed.append(mixed_of(one, firsts) * many + mixed_of(other, seconds))
    return (
        tuple([tuple(row) for row in both]),
        tuple([right_of(one, s) * many + right_of(other, t) for s, t in pairs]),
        tuple([left_of(one, s) * many + left_of(other, t) for s, t in pairs]),
        tuple(mixed),
    )
