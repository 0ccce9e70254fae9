"""Surroundings and sharings out that several tests use, and what is told of them straight from the document."""

from functools import lru_cache

from tests.stepmaking import answers_of_steps, closure_as_told, random_steps, steps_as_told
from tests.tablemaking import mixed_as_told, subsets


def random_surroundings(rng, many, longest=5, letters="abc"):
    found = []
    for _ in range(many):
        word = rng.choice(("ahead", "behind", "right", "left", "mixed"))
        if word == "mixed":
            found.append((word, tuple(random_steps(rng, rng.randint(1, longest), letters) for _ in range(rng.randrange(4)))))
        else:
            found.append((word,) + ((random_steps(rng, rng.randint(1, longest), letters),) if word in ("ahead", "behind") else ()))
    return tuple(found)


def surroundings_as_told(value):
    """[6.1], straight from the document."""
    if type(value) is not tuple:
        return False
    for part in value:
        if type(part) is not tuple or not part or type(part[0]) is not str:
            return False
        if part[0] in ("right", "left"):
            right = len(part) == 1
        elif part[0] in ("ahead", "behind"):
            right = len(part) == 2 and steps_as_told(part[1])
        else:
            right = part[0] == "mixed" and len(part) == 2 and type(part[1]) is tuple and all(map(steps_as_told, part[1]))
        if not right:
            return False
    return True


def answer_round_as_told(reader, s, surroundings):
    """[6.2], straight from the document."""
    both, right, left, _ = reader[0]
    for word, *told in surroundings:
        if word in ("right", "left"):
            s = (right if word == "right" else left)[s]
        elif word == "mixed":
            s = mixed_as_told(reader[0], [s] + [answers_of_steps(reader, steps)[-1] for steps in told[0]])
        else:
            t = answers_of_steps(reader, told[0])[-1]
            s = both[t][s] if word == "ahead" else both[s][t]
    return s


@lru_cache(maxsize=None)
def reached_as_told(reader):
    return closure_as_told(reader[0], [s for _, s in reader[1]])


def first_unlike_as_told(reader, sharing, x, y):
    """The first fault of [6.4] of two neighbours."""
    (both, right, left, _), known = reader[0], reached_as_told(reader)

    def apart(a, b):
        return [lot for lot in sharing if a in lot] != [lot for lot in sharing if b in lot]

    for u in known:
        if apart(both[u][x], both[u][y]):
            return ("ahead", x, y, u)
    for u in known:
        if apart(both[x][u], both[y][u]):
            return ("behind", x, y, u)
    if apart(right[x], right[y]):
        return ("right", x, y)
    if apart(left[x], left[y]):
        return ("left", x, y)
    for P in [()] + subsets(len(both)):
        if set(P) <= set(known) and apart(mixed_as_told(reader[0], P + (x,)), mixed_as_told(reader[0], P + (y,))):
            return ("mixed", x, y, P)
    return None


def sharings(things):
    """All sharings out of a list of answers, each as lists of lots."""
    if not things:
        yield ()
        return
    for rest in sharings(things[1:]):
        yield ((things[0],),) + rest
        for k, lot in enumerate(rest):
            yield ((things[0],) + lot,) + rest[:k] + rest[k + 1:]


def is_fair(reader, sharing):
    """[6.3]: whether a sharing out of the reached answers is fair, each two of a class being looked at."""
    if any(len({x in reader[2] for x in lot}) > 1 for lot in sharing):
        return False
    return all(first_unlike_as_told(reader, sharing, x, y) is None for lot in sharing for x in lot for y in lot if x < y)


@lru_cache(maxsize=None)
def classes_as_told(reader):
    """[6.5]: of all fair sharings out the one with the fewest classes."""
    fair = [sharing for sharing in sharings(reached_as_told(reader)) if is_fair(reader, sharing)]
    return tuple(sorted(min(fair, key=len))), fair
