"""Rows, values and keys that several tests make."""

import copy
from fractions import Fraction


def random_row(rng, depth, letters="abc", words=("join", "right", "left", "mix")):
    if depth == 0 or rng.random() < 0.2:
        return rng.choice(letters)
    word = rng.choice(words)
    if word in ("right", "left"):
        return (word, random_row(rng, depth - 1, letters, words))
    least = 2 if word == "join" else 1
    many = rng.randint(least, 3)
    return (word, tuple(random_row(rng, depth - 1, letters, words) for _ in range(many)))


def random_place(rng, row, copies=4, halvings=4):
    if isinstance(row, str):
        return ()
    word, told = row
    if word == "join":
        k = rng.randrange(len(told))
        return (k,) + random_place(rng, told[k], copies, halvings)
    if word == "mix":
        n = rng.randint(1, halvings)
        k = rng.randrange(1, 2 ** n, 2)
        return (k, n) + random_place(rng, told[(n - 1) % len(told)], copies, halvings)
    return (rng.randrange(copies),) + random_place(rng, told, copies, halvings)


def order_key(row, place):
    """A key by which the places of a row ascend in their order, told straight from the document."""
    if isinstance(row, str):
        return ()
    word, told = row
    if word == "join":
        return (place[0],) + order_key(told[place[0]], place[1:])
    if word == "right":
        return (place[0],) + order_key(told, place[1:])
    if word == "left":
        return (-place[0],) + order_key(told, place[1:])
    k, n = place[:2]
    return (Fraction(k, 2 ** n),) + order_key(told[(n - 1) % len(told)], place[2:])


def places_as_told(row, copies_below, halvings):
    """All places with such numbers, in no order."""
    if isinstance(row, str):
        return [()]
    word, told = row
    if word == "join":
        return [(k,) + place for k, part in enumerate(told) for place in places_as_told(part, copies_below, halvings)]
    if word == "mix":
        return [(k, n) + place for n in range(1, halvings + 1) for k in range(1, 2 ** n, 2)
                for place in places_as_told(told[(n - 1) % len(told)], copies_below, halvings)]
    return [(k,) + place for k in range(copies_below) for place in places_as_told(told, copies_below, halvings)]


def window(row, copies_below, halvings):
    return sorted(places_as_told(row, copies_below, halvings), key=lambda place: order_key(row, place))


def nearly(value):
    """Values with one change each: another kind, True in the place of 1, a list in that of a tuple, parts more or less."""
    if isinstance(value, bool) or value is None:
        return
    if isinstance(value, int):
        yield from (str(value), None, -value - 1, value + 1)
        if value in (0, 1):
            yield bool(value)
    elif isinstance(value, str):
        yield from (value + "a", value.upper(), "", None, 0, True)
    elif isinstance(value, (tuple, list)):
        alike, unlike = (tuple, list) if isinstance(value, tuple) else (list, tuple)
        yield from (unlike(value), value[:-1], value[1:], value + alike(["a"]), value + alike([0]), alike([value]))
        for k, part in enumerate(value):
            for other in nearly(part):
                yield value[:k] + alike([other]) + value[k + 1:]


def kept(function, *arguments):
    """What a function returns, or raises; fails if it changes an argument."""
    before = copy.deepcopy(arguments)
    try:
        return function(*arguments)
    finally:
        if repr(before) != repr(arguments):
            raise AssertionError(f"{function.__name__} changed {before!r} to {arguments!r}")


ODD_VALUES = (
    None, True, False, 0, 1, -1, 10 ** 39, "", "A", "aa", "ab", " ", "\t", "\n", "1", "join", "right", (), [], {}, (None,),
    ("a",), ["a"], ("a", "b"), ("join",), ("join", "a"), ("join", ()), ("join", ("a",)), ("join", ["a", "b"]),
    ["join", ("a", "b")], ("join", ("a", "b"), ()), ("join", "ab"), ("join", {"a": 1, "b": 2}), ("right",),
    ("right", ("a",)), ("right", ["a"]), ("right", "a", "b"), ("right", None), ("right", True), ["right", "a"],
    ("left",), ("left", ()), ("left", "A"), ("mix", ()), ("mix", []), ("mix", "a"), ("mix", ["a"]), ("mix", ("aa",)),
    ("mix", ("a", None)), ("Mix", ("a",)), ("row", "a"), (["right"], "a"), ({"right": 1}, "a"), ((), "a"),
    (True, "a"), ("join", ("a", ("right", ("join", ("a",))))), ({}, {}), {"right": "a"}, ((((),),),), [[[[]]]],
)
