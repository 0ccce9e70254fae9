"""Steps that several tests make, and what is told of them straight from the document."""

from tests.rowmaking import ODD_VALUES, nearly
from tests.tablemaking import mixed_as_told


def random_steps(rng, many, letters="abc", words=("join", "join", "right", "left", "mix"), few=0.25):
    steps = []
    for k in range(many):
        word = rng.choice(words)
        # Half of them of late entries, so that rows grow.
        least = max(0, k - 3) if rng.random() < 0.5 else 0
        if k == 0 or rng.random() < few:
            steps.append(rng.choice(letters))
        elif word == "mix":
            steps.append(("mix", tuple(sorted({rng.randrange(least, k) for _ in range(rng.randint(1, 3))}))))
        else:
            steps.append((word,) + tuple(rng.randrange(least, k) for _ in range(2 if word == "join" else 1)))
    return tuple(steps)


def steps_as_told(value):
    """[4.1], straight from the document, for any value."""
    def number(i, k):
        return type(i) is int and 0 <= i < k

    def entry(one, k):
        if type(one) is str:
            return len(one) == 1 and one in "abcdefghijklmnopqrstuvwxyz"
        if type(one) is not tuple or not one or type(one[0]) is not str:
            return False
        if one[0] == "join":
            return len(one) == 3 and number(one[1], k) and number(one[2], k)
        if one[0] in ("right", "left"):
            return len(one) == 2 and number(one[1], k)
        if one[0] != "mix" or len(one) != 2 or type(one[1]) is not tuple or not one[1]:
            return False
        return all(number(i, k) for i in one[1]) and list(one[1]) == sorted(set(one[1]))

    return type(value) is tuple and value != () and all(entry(one, k) for k, one in enumerate(value))


def numbers_of(entry):
    return () if isinstance(entry, str) else entry[1] if entry[0] == "mix" else entry[1:]


def row_as_told(steps, k=-1):
    """The row of an entry, straight from the document."""
    entry = steps[k]
    if isinstance(entry, str):
        return entry
    rows = tuple(row_as_told(steps, i) for i in numbers_of(entry))
    return (entry[0], rows if entry[0] in ("join", "mix") else rows[0])


def answers_of_steps(reader, steps):
    """[4.3], straight from the document."""
    (both, right, left, _), letters, _ = reader
    found = []
    for entry in steps:
        told = [found[i] for i in numbers_of(entry)]
        if isinstance(entry, str):
            found.append(dict(letters)[entry])
        elif entry[0] == "join":
            found.append(both[told[0]][told[1]])
        elif entry[0] == "mix":
            found.append(mixed_as_told(reader[0], told))
        else:
            found.append((right if entry[0] == "right" else left)[told[0]])
    return tuple(found)


def closure_as_told(table, answers):
    """The least closed lot with these answers, told anew."""
    both, right, left, _ = table
    found, more = set(), set(answers)
    while more - found:
        found |= more
        more = {both[s][t] for s in found for t in found} | {right[s] for s in found} | {left[s] for s in found}
        for k in range(1, 2 ** len(both)):
            lot = [s for s in range(len(both)) if k >> s & 1]
            if found.issuperset(lot):
                more.add(mixed_as_told(table, lot))
    return tuple(sorted(found))


def papers(words, rights):
    """Values for judges: each right one with one change, with each of the words, and odd ones."""
    for right in rights:
        yield right
        yield from nearly(right)
        yield from [(word, right[1]) for word in words]
        yield from [list(right), right + (None,), right[:1], right[1:]]
    yield from ODD_VALUES
    yield from [(word, value) for word in words for value in ODD_VALUES]


NO_STEPS = [
    (), [], "a", ["a"], ("A",), ("aa",), ("",), (0,), (None,), (True,), ((),), (("a",),), (["a"],), ("a", ["right", 0]),
    ("a", ("right",)), ("a", ("right", 0, 0)), ("a", ("right", 1)), ("a", ("right", -1)), ("a", ("right", True)),
    ("a", ("right", False)), ("a", "b", ("right", True)), ("a", ("right", (0,))), ("a", ("right", "a")), ("a", ("right", None)),
    (("right", 0),), (("left", 0), "a"), ("a", ("left", 1)), ("a", ("left", 0), ("left", 2)), ("a", ("join", 0)),
    ("a", ("join", 0, 0, 0)), ("a", ("join", 0, 1)), ("a", ("join", 1, 0)), ("a", ("join", -1, 0)), ("a", ("join", 0, False)),
    ("a", "b", ("join", True, 0)), ("a", ("join", (0, 0))), (("join", 0, 0),), ("a", ("join",)), ("a", ("mix",)),
    ("a", ("mix", ())), ("a", ("mix", 0)), ("a", ("mix", [0])), ("a", ("mix", (1,))), ("a", ("mix", (-1,))),
    ("a", ("mix", (False,))), ("a", "b", ("mix", (1, 0))), ("a", "b", ("mix", (0, 0))), ("a", "b", ("mix", (0, True))),
    ("a", "b", ("mix", (0, 1, 1))), ("a", "b", ("mix", (0, 2))), ("a", "b", ("mix", 0, 1)), ("a", ("mix", ("a",))),
    ("a", "b", ("mix", (0, None))), ("a", "b", ("mix", ("b", 0))), ("a", ("mix", ((0,),))), ("a", ("Mix", (0,))),
    ("a", ("", 0)), ("a", (None, 0)), ("a", ((), 0)), ("a", (["right"], 0)), ("a", ()), ("a", 0), ("a", ("a", 0)), {"a": 1}, {},
]
