"""Tables and readers that several tests use."""

from everrows.parted import part_of, side_by_side

HAS = (((0, 1), (1, 1)), (0, 1), (0, 1), (0, 1, 1))
FIRST = (((0, 0, 0), (1, 1, 1), (2, 2, 2)), (0, 1, 2), (0, 0, 0), (0, 0, 0, 0, 0, 0, 0))
TURN = (((0, 1), (1, 0)), (0, 0), (0, 0), (0, 0, 0))
BENT = (((0, 1), (1, 1)), (0, 1), (0, 1), (0, 1, 0))
ONE = (((0,),), (0,), (0,), (0,))
SEES = (HAS, (("a", 1), ("b", 0)), (1,))

# HAS and FIRST side by side.
SIX = (
    ((0, 0, 0, 3, 3, 3), (1, 1, 1, 4, 4, 4), (2, 2, 2, 5, 5, 5), (3, 3, 3, 3, 3, 3), (4, 4, 4, 4, 4, 4), (5, 5, 5, 5, 5, 5)),
    (0, 1, 2, 3, 4, 5),
    (0, 0, 0, 3, 3, 3),
    (0,) * 7 + (3,) * 56,
)

LAWFUL = [
    ONE, HAS, FIRST, SIX,
    (((0, 0), (0, 1)), (0, 1), (0, 1), (0, 1, 0)),
    (((0, 1, 2), (1, 1, 2), (2, 2, 2)), (0, 1, 2), (0, 1, 2), (0, 1, 2, 2, 2, 2, 2)),
    (((0, 1, 1), (1, 1, 1), (1, 1, 2)), (0, 1, 2), (0, 1, 2), (0, 1, 1, 2, 1, 1, 1)),
    (((0, 1, 2), (1, 1, 1), (2, 1, 2)), (0, 1, 2), (0, 1, 2), (1, 1, 1, 2, 2, 1, 1)),
    (((0, 0, 0), (1, 1, 1), (0, 1, 2)), (0, 1, 2), (0, 0, 2), (0, 0, 0, 2, 0, 0, 0)),
    (((0, 0, 0), (0, 1, 2), (0, 2, 2)), (0, 1, 2), (0, 2, 2), (0, 0, 0, 2, 0, 2, 0)),
    (((0, 1, 1), (0, 1, 1), (0, 1, 2)), (1, 1, 2), (0, 1, 2), (1, 1, 1, 2, 1, 1, 1)),
    (((0, 0, 2), (0, 1, 2), (0, 0, 2)), (0, 1, 0), (0, 1, 2), (0, 1, 0, 0, 0, 0, 0)),
    (((1, 1, 0), (1, 1, 1), (0, 1, 2)), (1, 1, 2), (1, 1, 2), (1, 1, 1, 2, 1, 1, 1)),
]



def counting(n):
    """How many places, n - 1 standing for all greater numbers and endlessly many."""
    last = n - 1
    return (tuple(tuple(min(s + t, last) for t in range(n)) for s in range(n)), (0,) + (last,) * last, (0,) + (last,) * last,
            (0,) + (last,) * (2 ** n - 2))


def turning(n):
    """How many places modulo n - 1, n - 1 standing for endlessly many."""
    last = n - 1
    both = tuple(tuple(last if last in (s, t) else (s + t) % last for t in range(n)) for s in range(n))
    return both, (last,) * n, (last,) * n, (last,) * (2 ** n - 1)


# 2 for a first place, 1 for a last one, together.
EDGES = (((0, 1, 0, 1), (0, 1, 0, 1), (2, 3, 2, 3), (2, 3, 2, 3)), (0, 0, 2, 2), (0, 1, 0, 1), (0,) * 15)

# 1 for a, 2 for b, 3 for a b, 4 for b a, 5 for a b a, 0 for all other rows.
WORD = (((0,) * 6, (0, 0, 3, 0, 5, 0), (0, 4, 0, 0, 0, 0), (0, 5, 0, 0, 0, 0), (0,) * 6, (0,) * 6), (0,) * 6, (0,) * 6, (0,) * 63)

WIDE = [EDGES, counting(3), counting(5), counting(6), turning(3), turning(4), turning(6),
        side_by_side(LAWFUL[4], LAWFUL[10]), side_by_side(LAWFUL[12], HAS), side_by_side(HAS, turning(3)),
        side_by_side(LAWFUL[4], LAWFUL[4]), part_of(side_by_side(HAS, LAWFUL[6]), (0, 1, 3, 4, 5)), WORD]

# Of each rule: a table that breaks it first, the first case, and all rules that it breaks.
BROKEN = [
    ((((0, 0, 0), (0, 0, 0), (0, 1, 0)), (0, 0, 0), (0, 0, 0), (0,) * 7), (1, (2, 2, 1)), [1]),
    ((((0, 0), (1, 1)), (0, 0), (0, 0), (0, 0, 0)), (2, (1, 0)), [2]),
    ((((0, 0), (0, 0)), (0, 1), (0, 0), (0, 0, 0)), (3, (1, 2)), [3]),
    ((((0, 1), (0, 1)), (0, 0), (0, 0), (0, 0, 0)), (4, (0, 1)), [4]),
    ((((0, 0), (0, 0)), (0, 0), (0, 1), (0, 0, 0)), (5, (1, 2)), [5]),
    ((((0, 0, 0), (0, 0, 0), (0, 0, 0)), (0, 0, 0), (0, 0, 0), (0, 0, 0, 1, 0, 2, 2)), (6, ((2,),)), [6, 7, 8, 9]),
    ((((0, 0), (0, 1)), (0, 0), (0, 1), (0, 1, 0)), (7, ((1,),)), [7]),
    ((((0, 0), (0, 1)), (0, 1), (0, 0), (0, 1, 0)), (8, ((1,),)), [8]),
    ((((0, 1, 0), (1, 1, 1), (0, 1, 2)), (0, 1, 1), (0, 1, 2), (1, 1, 1, 0, 0, 1, 1)), (9, ((2,), (0,))), [9]),
    (TURN, (2, (1, 0)), [2, 4, 6]),
    (BENT, (6, ((0, 1), 1)), [6, 7, 8, 9]),
]


def random_table(rng, n):
    def some(many):
        return tuple(rng.randrange(n) for _ in range(many))
    return tuple(some(n) for _ in range(n)), some(n), some(n), some(2 ** n - 1)


def changed(rng, table):
    """The table with one of its answers told at random."""
    n = len(table[0])
    parts = [list(row) for row in (*table[0], *table[1:])]
    part = rng.choice(parts)
    part[rng.randrange(len(part))] = rng.randrange(n)
    parts = [tuple(row) for row in parts]
    return tuple(parts[:n]), parts[n], parts[n + 1], parts[n + 2]


def subsets(n):
    """All lots of n answers by their numbers, told straight from the document."""
    return [tuple(s for s in range(n) if k >> s & 1) for k in range(1, 2 ** n)]


def random_reader(rng, letters="abc", tables=LAWFUL + WIDE):
    table = rng.choice(tables)
    n = len(table[0])
    return (table, tuple((letter, rng.randrange(n)) for letter in letters), tuple(s for s in range(n) if rng.random() < 0.5))


def fault_as_told(table, lot):
    """[3.5], straight from the document: the first dealing that leads out of a lot."""
    both, right, left, _ = table
    for s in lot:
        for t in lot:
            if both[s][t] not in lot:
                return ("both", s, t)
    for s in lot:
        if right[s] not in lot:
            return ("right", s)
    for s in lot:
        if left[s] not in lot:
            return ("left", s)
    for P in subsets(6):
        if set(P) <= set(lot) and mixed_as_told(table, P) not in lot:
            return ("mixed", P)
    return None


def mixed_as_told(table, answers):
    return table[3][sum(2 ** s for s in set(answers)) - 1]
