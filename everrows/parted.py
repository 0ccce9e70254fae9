"""Tables made of tables: renamed, cut down to a closed lot, put side by side."""

from everrows.closed import closed_fault, layers
from everrows.errors import NotClosed, TooMany
from everrows.lots import lot_of, lots
from everrows.tables import MOST_ANSWERS, both_of, count_of, left_of, mixed_of, right_of


def renumbered(table, order):
    """The table in which each answer s has the name order[s]."""
    return table_named(table, sorted(range(len(order)), key=lambda s: order[s]), order)


def table_named(table, answers, names):
    """The table whose answers stand for these answers, in their order, names[s] being the name of what comes as s."""
    return (
        tuple([tuple([names[both_of(table, s, t)] for t in answers]) for s in answers]),
        tuple([names[right_of(table, s)] for s in answers]),
        tuple([names[left_of(table, s)] for s in answers]),
        tuple([names[mixed_of(table, [answers[name] for name in lot])] for lot in lots(len(answers))]),
    )


def closed_lot(table, answers):
    """The least closed lot that has all answers of a list."""
    return layers(table, lot_of(answers))[-1]


def part_of(table, lot):
    """The table of the answers of a closed lot, named 0, 1, .. in their order; NotClosed(fault) if it is not closed."""
    fault = closed_fault(table, lot)
    if fault is not None:
        raise NotClosed(fault)
    return table_named(table, lot, {s: name for name, s in enumerate(lot)})


def side_by_side(one, other):
    """The table of all pairs of answers of two tables; TooMany() above six."""
    if count_of(one) * count_of(other) > MOST_ANSWERS:
        raise TooMany()
    return table_of_pairs(one, other, [(s, t) for s in range(count_of(one)) for t in range(count_of(other))])


def table_of_pairs(one, other, pairs):
    """The table of pairs of answers of two tables, out of which no dealing leads, named 0, 1, .. in their order."""
    names = {pair: name for name, pair in enumerate(pairs)}
    mixed = []
    for lot in lots(len(pairs)):
        firsts, seconds = [pairs[name][0] for name in lot], [pairs[name][1] for name in lot]
        mixed.append(names[mixed_of(one, firsts), mixed_of(other, seconds)])
    return (
        tuple([tuple([names[both_of(one, s, u), both_of(other, t, v)] for u, v in pairs]) for s, t in pairs]),
        tuple([names[right_of(one, s), right_of(other, t)] for s, t in pairs]),
        tuple([names[left_of(one, s), left_of(other, t)] for s, t in pairs]),
        tuple(mixed),
    )
