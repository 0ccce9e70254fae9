"""Tables made of tables: renamed, cut down to a closed lot, put side by side."""

from everrows.errors import NotClosed, TooMany
from everrows.lots import lot_of, lots, lots_within
from everrows.tables import MOST_ANSWERS, both_of, count_of, left_of, mixed_of, right_of


def renumbered(table, order):
    """The table in which each answer s has the name order[s]."""
    return _called_anew(table, sorted(range(len(order)), key=lambda s: order[s]))


def _called_anew(table, answers):
    """The table of these answers, no dealing leading out of them, named 0, 1, .. as they stand here."""
    names = {s: name for name, s in enumerate(answers)}
    return (
        tuple([tuple([names[both_of(table, s, t)] for t in answers]) for s in answers]),
        tuple([names[right_of(table, s)] for s in answers]),
        tuple([names[left_of(table, s)] for s in answers]),
        tuple([names[mixed_of(table, [answers[name] for name in lot])] for lot in lots(len(answers))]),
    )


def dealings_of(table, lot):
    """The list of pairs (dealing, what comes of it) of all dealings of answers of a lot, in their order."""
    found = [(("both", s, t), both_of(table, s, t)) for s in lot for t in lot]
    found.extend([(("right", s), right_of(table, s)) for s in lot])
    found.extend([(("left", s), left_of(table, s)) for s in lot])
    found.extend([(("mixed", part), mixed_of(table, part)) for part in lots_within(lot)])
    return found


def closed_lot(table, answers):
    """The least closed lot that has all answers of a list."""
    lot, more = (), lot_of(answers)
    while lot != more:
        lot, more = more, lot_of([*more, *[s for _, s in dealings_of(table, more)]])
    return lot


def part_of(table, lot):
    """The table of the answers of a closed lot, named 0, 1, .. in their order; NotClosed(fault) if it is not closed."""
    for dealing, s in dealings_of(table, lot):
        if s not in lot:
            raise NotClosed(dealing)
    return _called_anew(table, lot)


def side_by_side(one, other):
    """The table of all pairs of answers of two tables; TooMany() above six."""
    many = count_of(other)
    if count_of(one) * many > MOST_ANSWERS:
        raise TooMany()
    pairs = [(s, t) for s in range(count_of(one)) for t in range(many)]
    both = [[both_of(one, s, u) * many + both_of(other, t, v) for u, v in pairs] for s, t in pairs]
    mixed = []
    for lot in lots(len(pairs)):
        firsts, seconds = [pairs[k][0] for k in lot], [pairs[k][1] for k in lot]
        mixed.append(mixed_of(one, firsts) * many + mixed_of(other, seconds))
    return (
        tuple([tuple(row) for row in both]),
        tuple([right_of(one, s) * many + right_of(other, t) for s, t in pairs]),
        tuple([left_of(one, s) * many + left_of(other, t) for s, t in pairs]),
        tuple(mixed),
    )
