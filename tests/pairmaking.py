"""Pairs of readers that several tests use, and what is told of their pairs straight from the document."""

import random

from tests.stepmaking import closure_as_told
from tests.tablemaking import HAS, LAWFUL, ONE, SIX, WIDE, mixed_as_told, random_reader, subsets

HASB, HASA = (HAS, (("a", 0), ("b", 1)), (1,)), (HAS, (("a", 1), ("b", 0)), (1,))
ALL, NONE = (HAS, (("a", 0), ("b", 1)), (0, 1)), (HAS, (("a", 1), ("b", 1)), ())
BOTH = (LAWFUL[5], (("a", 0), ("b", 1)), (1, 2))


def some_two():
    """Pairs of readers of the same letters: few ones by name, and random ones with tables of each size."""
    rng = random.Random(70)
    found = [(HASB, HASA), (HASA, HASB), (HASB, HASB), (HASB, ALL), (ALL, HASB), (NONE, HASA), (BOTH, HASB), (HASB, BOTH)]
    found.append(((ONE, (("a", 0),), (0,)), (SIX, (("a", 5),), (0, 3, 5))))
    found.append((BOTH, (LAWFUL[5], (("a", 1), ("b", 0)), (2,))))
    found.append(((LAWFUL[5], tuple(zip("abc", (0, 1, 1))), (1,)), (LAWFUL[5], tuple(zip("abc", (0, 0, 1))), (0, 2))))
    letters = "abcde"
    for one, other in [(SIX, SIX), (WIDE[3], WIDE[6]), (WIDE[7], WIDE[8]), (WIDE[6], SIX), (ONE, WIDE[9])]:
        found.append((random_reader(rng, letters, [one]), random_reader(rng, letters, [other])))
    for table in LAWFUL + WIDE:
        chosen = letters[:rng.randint(1, 4)]
        one, other = random_reader(rng, chosen, [table]), random_reader(rng, chosen)
        found += [(one, other), (one, (table, one[1], other[2]) if max(other[2], default=0) < len(table[0]) else one)]
    return found


def pairs_of_letters(one, other):
    return [(letter, (s, dict(other[1])[letter])) for letter, s in one[1]]


def covered_as_told(pairs, A, B):
    those = [p for p in pairs if p[0] in A and p[1] in B]
    return {p[0] for p in those} == set(A) and {p[1] for p in those} == set(B)


def leads_out_as_told(one, other, pairs):
    """[5.2], straight from the document."""
    (both, right, left, _), (beside, right_too, left_too, _) = one[0], other[0]
    for p in pairs:
        for q in pairs:
            if (both[p[0]][q[0]], beside[p[1]][q[1]]) not in pairs:
                return ("both", p, q)
    for p in pairs:
        if (right[p[0]], right_too[p[1]]) not in pairs:
            return ("right", p)
    for p in pairs:
        if (left[p[0]], left_too[p[1]]) not in pairs:
            return ("left", p)
    for A in subsets(len(both)):
        for B in subsets(len(beside)):
            if covered_as_told(pairs, A, B) and (mixed_as_told(one[0], A), mixed_as_told(other[0], B)) not in pairs:
                return ("mixed", A, B)
    return None


def least_closed_pairs(one, other):
    """The least closed lot that has the letters' pairs, told anew: dealing by dealing that leads out of it."""
    pairs = sorted({p for _, p in pairs_of_letters(one, other)})
    while True:
        fault = leads_out_as_told(one, other, tuple(pairs))
        if fault is None:
            return tuple(pairs)
        (both, right, left, _), (beside, right_too, left_too, _) = one[0], other[0]
        if fault[0] == "both":
            (s, u), (t, v) = fault[1:]
            comes = (both[s][t], beside[u][v])
        elif fault[0] == "mixed":
            comes = (mixed_as_told(one[0], fault[1]), mixed_as_told(other[0], fault[2]))
        else:
            s, u = fault[1]
            comes = (right[s], right_too[u]) if fault[0] == "right" else (left[s], left_too[u])
        pairs = sorted(pairs + [comes])


def lot_of_pairs_as_told(one, other, value):
    if type(value) is not tuple or not value:
        return False
    known = {repr((s, u)) for s in range(len(one[0][0])) for u in range(len(other[0][0]))}
    return all(repr(pair) in known for pair in value) and list(value) == sorted(set(value))


def closures_side_by_side(one, other, table):
    """The least closed lot with the letters' pairs by a table of two put side by side."""
    many = len(other[0][0])
    return tuple(divmod(p, many) for p in closure_as_told(table, [s * many + u for _, (s, u) in pairs_of_letters(one, other)]))
