"""What stands ahead of, behind and between places, as rows."""

from everrows.places import comes_ahead, count, part_at, parting, way_to


def laid(rows):
    """The rows one behind another as one row, joins in joins laid open; None if there are none."""
    if len(rows) == 0:
        return None
    if len(rows) == 1:
        return rows[0]
    found, waiting = [], list(rows)[::-1]
    while waiting:
        row = waiting.pop()
        if row[0] == "join":
            waiting.extend(row[1][::-1])
        else:
            found.append(row)
    return ("join", tuple(found))


def laid_of(rows):
    """The rows laid, those left out that are None."""
    return laid([row for row in rows if row is not None])


def ahead(row, place):
    """What is ahead of a place, None if nothing is."""
    found = None
    for dealing, numbers, _ in way_to(row, place)[::-1]:
        found = laid_of([*_parts_ahead(dealing, numbers[0]), found])
    return found


def behind(row, place):
    """What is behind a place, None if nothing is."""
    found = None
    for dealing, numbers, _ in way_to(row, place)[::-1]:
        found = laid_of([found, *_parts_behind(dealing, numbers[0])])
    return found


def _parts_ahead(dealing, k):
    """The list of the rows that stand in a dealing ahead of its part, or copy, with the number k."""
    word, told = dealing
    if word == "join":
        return list(told[:k])
    return [told] * k if word == "right" else [dealing]


def _parts_behind(dealing, k):
    """The list of the rows that stand in a dealing behind its part, or copy, with the number k."""
    word, told = dealing
    if word == "join":
        return list(told[k + 1:])
    return [told] * k if word == "left" else [dealing]


def between(row, one, other):
    """What is between two places, one ahead of other, None if nothing is."""
    dealing, mine, yours, at = parting(row, one, other)
    inner = at + len(mine)
    return laid_of([
        behind(part_at(dealing, mine), one[inner:]),
        *_parts_between(dealing, mine[0], yours[0]),
        ahead(part_at(dealing, yours), other[inner:]),
    ])


def _parts_between(dealing, k, j):
    """The list of the rows that stand in a dealing between its parts, or copies, with the numbers k and j."""
    word, told = dealing
    if word == "join":
        return list(told[k + 1:j])
    return [dealing] if word == "mix" else [told] * (abs(j - k) - 1)


def many_between(row, one, other):
    """How many places are between two places, one ahead of other, None if endlessly many."""
    found = between(row, one, other)
    return 0 if found is None else count(found)


def are_near(row, one, other):
    """Whether there are not endlessly many places between two places, in any order."""
    if one == other:
        return True
    first, second = (one, other) if comes_ahead(row, one, other) else (other, one)
    return many_between(row, first, second) is not None


def put_at(row, place, other):
    """The row with another row in the place of a place."""
    return laid_of([ahead(row, place), other, behind(row, place)])
