"""Lots that dealings do not leave, and how lots grow by dealings."""

from everrows.lots import lot_of, lots, lots_within
from everrows.tables import both_of, count_of, left_of, mixed_of, right_of


def dealings_of(table, lot):
    """The list of pairs (dealing, what comes of it) of all dealings of answers of a lot, in their order."""
    found = [(("both", s, t), both_of(table, s, t)) for s in lot for t in lot]
    found.extend([(("right", s), right_of(table, s)) for s in lot])
    found.extend([(("left", s), left_of(table, s)) for s in lot])
    found.extend([(("mixed", part), mixed_of(table, part)) for part in lots_within(lot)])
    return found


def first_out(dealings, lot):
    """The first of dealings, pairs (dealing, what comes of it), that leads out of a lot of any things, else None."""
    for dealing, thing in dealings:
        if thing not in lot:
            return dealing
    return None


def closed_fault(table, lot):
    """The first dealing that leads out of a lot, None if it is closed."""
    return first_out(dealings_of(table, lot), lot)


def layers(table, lot):
    """The list of a lot, of it and what one dealing makes of it, and so on, as long as there is more."""
    found, more = [], lot
    while more not in found:
        found.append(more)
        more = lot_of([*more, *[s for _, s in dealings_of(table, more)]])
    return found


def closed_lots(table):
    """The list of all closed lots, by their numbers."""
    return [lot for lot in lots(count_of(table)) if closed_fault(table, lot) is None]
