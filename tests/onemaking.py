"""Rows told otherwise, and what is told of rows straight from the document, for tests of parts 7 to 9."""

from functools import lru_cache

from everrows.places import letter_at, places
from everrows.sides import ahead, behind
from tests.rowmaking import random_row

MIX_A = ("mix", ("a",))


def join(*rows):
    rows = [row for row in rows if row is not None]
    return rows[0] if len(rows) == 1 else ("join", tuple(rows))


def size(row):
    if isinstance(row, str):
        return 1
    return 1 + (size(row[1]) if row[0] in ("right", "left") else sum(map(size, row[1])))


def ways_of_join(row):
    rows = row[1]
    flat = [part for one in rows for part in (one[1] if one[0] == "join" else (one,))]
    found = [join(*flat)]
    for i in range(len(rows) - 1):
        if len(rows) > 2:
            found.append(join(*rows[:i], join(*rows[i:i + 2]), *rows[i + 2:]))
    return found


def ways_of_endless(row):
    word, x = row
    right = word == "right"
    found = [join(x, row) if right else join(row, x), (word, join(x, x)), (word, join(x, x, x))]
    if x[0] == "join":
        for i in range(1, len(x[1])):
            one, other = join(*x[1][:i]), join(*x[1][i:])
            found.append(join(one, (word, join(other, one))) if right else join((word, join(other, one)), other))
    return found


def ways_of_mix(row, rng):
    rows = row[1]
    c, d = rng.choice(rows), rng.choice(rows)
    edges = [row, join(c, row), join(row, d), join(c, row, d)]
    some = tuple(part for part in rows if rng.random() < 0.5)
    return [
        join(row, row), join(row, c, row), ("right", row), ("left", row), ("right", join(row, c)), ("left", join(d, row)),
        ("mix", rows + (c,)), ("mix", rows[::-1]), ("mix", rows[1:] + rows[:1]), ("mix", rows + (rng.choice(edges),)),
        ("mix", (rng.choice(edges),) + rows + (rng.choice(edges),)), ("mix", some + (rng.choice(edges),)),
        ("mix", (("mix", rows),)),
    ]


def told_here(rng, row):
    if isinstance(row, str):
        return row
    ways = {"join": ways_of_join, "mix": lambda mix: ways_of_mix(mix, rng)}.get(row[0], ways_of_endless)
    return rng.choice(ways(row))


def otherwise(rng, row):
    """A row that is one with a row, told otherwise somewhere."""
    if isinstance(row, str) or rng.random() < 0.4:
        return told_here(rng, row)
    word, told = row
    if word in ("right", "left"):
        return (word, otherwise(rng, told))
    k = rng.randrange(len(told))
    return (word, told[:k] + (otherwise(rng, told[k]),) + told[k + 1:])


def again_and_again(rng, row, times=6, most=120):
    """The list of a row told otherwise, that told otherwise, and so on, as long as its size is not above most."""
    found = []
    for _ in range(times):
        other = otherwise(rng, row)
        if size(other) <= most:
            row = other
            found.append(row)
    return found


def some_rows(rng, many, deep=3, letters="ab", most=24, words=("join", "right", "left", "mix")):
    found = []
    while len(found) < many:
        row = random_row(rng, deep, letters, words)
        if size(row) <= most:
            found.append(row)
    return found


def most_parts(row):
    """How many rows the mix with the most rows in a row has."""
    if isinstance(row, str):
        return 0
    rows = (row[1],) if row[0] in ("right", "left") else row[1]
    return max([len(rows) if row[0] == "mix" else 0, *map(most_parts, rows)])


@lru_cache(maxsize=None)
def seen(row, rounds):
    """What can be seen of a row by going to places, and then ahead or behind of them again, so many times in all.

    Rows that are one are seen alike. Copies from 2 ** rounds on show nothing new.
    """
    if row is None or rounds == 0:
        return row is None
    return frozenset((letter_at(row, place), seen(ahead(row, place), rounds - 1), seen(behind(row, place), rounds - 1))
                     for place in places(row, 2 ** rounds, max(most_parts(row), 1)))


def places_in_finite(row):
    """The letters of a row of joins and letters alone, in order."""
    return [row] if isinstance(row, str) else [letter for part in row[1] for letter in places_in_finite(part)]


# A row for each of the dealings alone, and rows of all of them within one another.
RICH = [
    "a", ("join", ("a", "b", "a")), ("right", "a"), ("left", "b"), MIX_A, ("mix", ("a", "b")),
    ("right", ("join", ("a", "b"))), ("left", ("right", "a")), ("right", ("left", ("join", ("a", "b")))),
    ("right", ("join", ("a", ("right", "b")))), ("left", ("join", (("left", "a"), "b", "a"))),
    ("mix", (("join", ("a", "b")), "a")), ("mix", (("right", "a"), ("left", "a"))), ("right", ("join", (MIX_A, "b"))),
    ("left", ("join", ("b", MIX_A, "b"))), ("join", (MIX_A, "a", MIX_A, "b", MIX_A)), ("mix", (MIX_A, "b")),
    ("mix", (MIX_A, ("mix", ("a", "b")))), ("right", ("mix", (("join", ("a", ("left", "b"))), ("right", "b")))),
    ("join", (("right", ("join", ("a", "a", "b"))), ("left", ("mix", (("join", ("b", "a")), "b"))), "a", ("right", MIX_A))),
    ("mix", (("join", (("left", "a"), ("mix", (("right", "b"), "a")), ("right", ("left", "b")))), "a")),
    ("right", ("join", (("mix", (("join", ("a", "b")), "c")), ("join", ("a", "b")), ("mix", ("c", ("join", ("a", "b"))))))),
]
