"""Places of rows: their addresses, their order, and their neighbours."""

from everrows.common import each_told, inner_first, is_number
from everrows.errors import TooMany
from everrows.rows import parts_of

MOST_PLACES = 400


def part_at(dealing, numbers):
    """The row that stands in a join, right, left or mix as the part, or copy, that its numbers tell."""
    word, told = dealing
    if word == "join":
        return told[numbers[0]]
    if word == "mix":
        return told[(numbers[1] - 1) % len(told)]
    return told


def _numbers_at(dealing, place, at):
    """The numbers by which an address tells a part, or copy, of a dealing, if they begin at a place in it."""
    return place[at:at + (2 if dealing[0] == "mix" else 1)]


def _tell_a_part(dealing, numbers):
    """Whether any values are numbers that tell a part, or copy, of a dealing."""
    if len(numbers) == 0 or not all(is_number(number) for number in numbers) or numbers[0] < 0:
        return False
    if dealing[0] == "mix":
        # An odd number is below 2 ** n if it has at most n binary figures; n may be too great for a power.
        return len(numbers) == 2 and numbers[0] % 2 == 1 and numbers[0].bit_length() <= numbers[1]
    return dealing[0] != "join" or numbers[0] < len(dealing[1])


def is_place(row, value):
    """Whether any value is an address of a place of the row."""
    if not isinstance(value, tuple):
        return False
    at = 0
    while not isinstance(row, str):
        numbers = _numbers_at(row, value, at)
        if not _tell_a_part(row, numbers):
            return False
        row = part_at(row, numbers)
        at += len(numbers)
    return at == len(value)


def way_to(row, place):
    """The way down to a place: the list of (dealing, its numbers, where in the address they begin), outermost first."""
    steps, at = [], 0
    while not isinstance(row, str):
        numbers = _numbers_at(row, place, at)
        steps.append((row, numbers, at))
        row = part_at(row, numbers)
        at += len(numbers)
    return steps


def parting(row, one, other):
    """The dealing in which two places part: (dealing, one's numbers, other's, where they begin), None if they don't."""
    for (dealing, mine, at), (_, yours, _) in zip(way_to(row, one), way_to(row, other)):
        if mine != yours:
            return dealing, mine, yours, at
    return None


def letter_at(row, place):
    """The letter at a place."""
    way = way_to(row, place)
    if len(way) == 0:
        return row
    dealing, numbers, _ = way[-1]
    return part_at(dealing, numbers)


def comes_ahead(row, one, other):
    """Whether one place is ahead of another one."""
    split = parting(row, one, other)
    if split is None:
        return False
    dealing, mine, yours, _ = split
    if dealing[0] == "mix":
        return (mine[0] << yours[1]) < (yours[0] << mine[1])
    return mine[0] > yours[0] if dealing[0] == "left" else mine[0] < yours[0]


def first_place(row):
    """The place that no place is ahead of, None if there is none."""
    return _met_first(row, "right")


def last_place(row):
    """The place that is ahead of none, None if there is none."""
    return _met_first(row, "left")


def _met_first(row, side):
    """The place that is met first if one goes through a row to the told side, None if there is none."""
    place = ()
    while not isinstance(row, str):
        # Copies have a beginning only for those who go to the side to which they go on endlessly.
        if row[0] not in ("join", side):
            return None
        k = len(row[1]) - 1 if row[0] == "join" and side == "left" else 0
        place = (*place, k)
        row = part_at(row, (k,))
    return place


def next_place(row, place):
    """The place behind a place with none between, None if there is none."""
    return _neighbour(row, place, "right")


def place_before(row, place):
    """The place ahead of a place with none between, None if there is none."""
    return _neighbour(row, place, "left")


def _neighbour(row, place, side):
    """The place next to a place on the told side, None if there is none."""
    for dealing, numbers, at in way_to(row, place)[::-1]:
        # Only what is the last one of its part or copy, for those who go to this side, comes so far.
        if dealing[0] == "mix":
            return None
        counted_on = (dealing[0] == "left") == (side == "left")
        beside = (numbers[0] + (1 if counted_on else -1),)
        if _tell_a_part(dealing, beside):
            met = _met_first(part_at(dealing, beside), side)
            return None if met is None else place[:at] + beside + met
    return None


def count(row):
    """How many places a row has, None if endlessly many."""
    parts = inner_first(row, parts_of)
    if any(part[0] in ("right", "left", "mix") for part in parts):
        return None
    return len([part for part in parts if isinstance(part, str)])


def places(row, copies, halvings):
    """The list of all places, in order, with copies below a number, and halved at most so often; TooMany above 400."""
    if _many_places(row, copies, halvings) > MOST_PLACES:
        raise TooMany()
    found, waiting = [], [((), row)]
    while waiting:
        place, part = waiting.pop()
        if isinstance(part, str):
            found.append(place)
        elif _many_places(part, copies, halvings) > 0:
            # Parts without such places are not gone into: there may be far too many of them.
            for numbers in _numbers_within(part, copies, halvings)[::-1]:
                waiting.append((place + numbers, part_at(part, numbers)))
    return found


def _many_places(row, copies, halvings):
    """How many places there are with such numbers; if there are more than 400, some number above."""
    def many(part, counts):
        if isinstance(part, str):
            return 1
        if part[0] == "join":
            return sum(counts)
        return _many_mixed(counts, halvings) if part[0] == "mix" else copies * counts[0]
    return each_told(row, parts_of, many)[-1]


def _many_mixed(counts, halvings):
    total = 0
    if any(counts):
        for n in range(1, halvings + 1):
            if total > MOST_PLACES:
                break
            total += counts[(n - 1) % len(counts)] << (n - 1)
    return total


def _numbers_within(dealing, copies, halvings):
    """The list of the numbers of all parts, or of the copies asked for, in the order in which these stand."""
    if dealing[0] == "join":
        return [(k,) for k in range(len(dealing[1]))]
    if dealing[0] == "mix":
        return [_fraction(k, halvings) for k in range(1, 1 << halvings)]
    found = [(k,) for k in range(copies)]
    return found[::-1] if dealing[0] == "left" else found


def _fraction(k, n):
    """(k, n) for k over 2 ** n, with an odd k."""
    while k % 2 == 0:
        k //= 2
        n -= 1
    return (k, n)
