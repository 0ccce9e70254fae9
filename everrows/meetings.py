"""Readers of the same letters side by side: what they say together, which agree, and which are within which."""

from everrows.agreeing import are_alike, says_of
from everrows.pairs import pairs_reached


def meetings(one, other):
    """The dict that has steps of a row for each pair (whether one says yes, whether other does) that some row has."""
    told, found = pairs_reached(one, other), {}
    for pair in told:
        found.setdefault(says_of(one, other, pair), told[pair])
    return found


def alike_lots(readers):
    """The list of the lots of numbers of readers that agree, by their least numbers."""
    found = {}
    for k, reader in enumerate(readers):
        alike = [first for first in found if _agree(readers[first], reader)]
        found.setdefault(alike[0] if alike else k, []).append(k)
    return [tuple(found[first]) for first in found]


def _agree(one, other):
    return all(are_alike(says) for says in meetings(one, other))


def order_of(readers):
    """The ascending list of pairs (i, j) of unlike numbers, the reader number i being within the one number j."""
    found = []
    for j, other in enumerate(readers):
        for i, one in enumerate(readers[:j]):
            told = meetings(one, other)
            if (True, False) not in told:
                found.append((i, j))
            if (False, True) not in told:
                found.append((j, i))
    return sorted(found)
