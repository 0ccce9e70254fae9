"""[3.5]: tables renumbered, cut down to closed lots, and put side by side."""

import random
import unittest
from itertools import permutations

from everrows.errors import NotClosed, RowError, TooMany
from everrows.lawful import broken_rules, first_broken
from everrows.parted import closed_lot, part_of, renumbered, side_by_side
from everrows.tables import is_table
from tests.rowmaking import kept
from tests.tablemaking import (BENT, FIRST, HAS, LAWFUL, ONE, SIX, TURN, WIDE, fault_as_told, mixed_as_told, random_table,
                               subsets)


class Renumbered(unittest.TestCase):
    def test_each_answer_has_its_new_name(self):
        rng = random.Random(30)
        for n in range(1, 5):
            for order in permutations(range(n)):
                old = random_table(rng, n)
                new = kept(renumbered, old, order)
                self.assertIs(is_table(new), True)
                for s in range(n):
                    self.assertEqual([new[1][order[s]], new[2][order[s]]], [order[old[1][s]], order[old[2][s]]])
                    for t in range(n):
                        self.assertEqual(new[0][order[s]][order[t]], order[old[0][s][t]])
                for lot in subsets(n):
                    self.assertEqual(mixed_as_told(new, [order[s] for s in lot]), order[mixed_as_told(old, lot)])

    def test_of_one_and_of_six_answers(self):
        self.assertEqual(renumbered(ONE, (0,)), ONE)
        order = (3, 5, 0, 1, 4, 2)
        back = tuple(order.index(s) for s in range(6))
        self.assertNotEqual(renumbered(SIX, order), SIX)
        self.assertEqual(renumbered(renumbered(SIX, order), back), SIX)

    def test_rules_are_kept_as_before(self):
        for table in LAWFUL + [TURN, BENT]:
            order = tuple(reversed(range(len(table[0]))))
            self.assertEqual(broken_rules(renumbered(table, order)), broken_rules(table))


class Closed(unittest.TestCase):
    def test_the_least_closed_lot(self):
        self.assertEqual([kept(closed_lot, FIRST, [2]), kept(closed_lot, FIRST, [0]), kept(closed_lot, FIRST, [1, 2, 1])],
                         [(0, 2), (0,), (0, 1, 2)])
        self.assertEqual([closed_lot(TURN, [1]), closed_lot(TURN, (0,)), closed_lot(ONE, [0, 0])], [(0, 1), (0,), (0,)])
        rng = random.Random(31)
        for _ in range(120):
            table = random_table(rng, rng.randint(1, 6)) if rng.random() < 0.5 else rng.choice(LAWFUL)
            n = len(table[0])
            answers = [rng.randrange(n) for _ in range(rng.randint(1, 3))]
            closed = [lot for lot in subsets(n) if set(answers) <= set(lot) and fault_as_told(table, lot) is None]
            least = min(closed, key=len)
            self.assertEqual(kept(closed_lot, table, answers), least)
            self.assertTrue(all(set(least) <= set(lot) for lot in closed))
            self.assertEqual(closed_lot(table, tuple(answers)), least)

    def test_by_mixed_of_each_lot_of_them(self):
        table = (((0, 0, 0), (0, 1, 0), (0, 0, 2)), (0, 1, 2), (0, 1, 2), (0, 1, 2, 2, 0, 0, 0))
        self.assertEqual(closed_lot(table, [0, 1]), (0, 1, 2))
        self.assertEqual(closed_lot(table, [1]), (1,))


class Parts(unittest.TestCase):
    def test_of_closed_lots(self):
        self.assertEqual(kept(part_of, FIRST, (0, 1, 2)), FIRST)
        self.assertEqual(kept(part_of, SIX, (0, 1, 2)), FIRST)
        self.assertEqual(kept(part_of, SIX, (0, 3)), HAS[:2] + ((0, 1), (0, 1, 1)))
        self.assertEqual(kept(part_of, TURN, (0,)), ONE)
        self.assertEqual(part_of(ONE, (0,)), ONE)

    def test_each_fault_ahead_of_the_next_ones(self):
        both, still = ((0, 0, 0), (0, 1, 1), (0, 1, 2)), (0, 1, 2)
        out_of_both = ((2, 0, 0), (2, 2, 1), (0, 1, 2))
        for table, lot, fault in [
                ((out_of_both, (2, 2, 2), (2, 2, 2), (2,) * 7), (0, 1), ("both", 0, 0)),
                ((((0, 0, 0), (2, 2, 1), (0, 1, 2)), (2, 2, 2), (2, 2, 2), (2,) * 7), (0, 1), ("both", 1, 0)),
                ((((0, 2, 0), (2, 1, 1), (0, 1, 2)), (2, 2, 2), (2, 2, 2), (2,) * 7), (0, 1), ("both", 0, 1)),
                ((both, (2, 2, 2), (2, 2, 2), (2,) * 7), (0, 1), ("right", 0)),
                ((both, (0, 2, 2), (2, 2, 2), (2,) * 7), (0, 1), ("right", 1)),
                ((both, still, (2, 2, 2), (2,) * 7), (0, 1), ("left", 0)), ((both, still, (0, 2, 2), (2,) * 7), (0, 1), ("left", 1)),
                ((both, still, still, (2,) * 7), (0, 1), ("mixed", (0,))),
                ((both, still, still, (0, 2, 2) + (2,) * 4), (0, 1), ("mixed", (1,))),
                ((both, still, still, (0, 1, 2) + (2,) * 4), (0, 1), ("mixed", (0, 1))),
                ((both, still, still, (0, 1, 0, 2, 2, 1, 0)), (1, 2), None),
                ((both, still, still, (0, 1, 0, 2, 2, 0, 0)), (1, 2), ("mixed", (1, 2)))]:
            self.assertEqual(fault_as_told(table, lot), fault)
            if fault is None:
                self.assertIs(is_table(part_of(table, lot)), True)
                continue
            with self.assertRaises(NotClosed) as caught:
                kept(part_of, table, lot)
            self.assertEqual(caught.exception.fault, fault)

    def test_against_the_document(self):
        rng = random.Random(32)
        for _ in range(60):
            table = random_table(rng, rng.randint(1, 4)) if rng.random() < 0.4 else rng.choice(LAWFUL)
            for lot in subsets(len(table[0])):
                fault = fault_as_told(table, lot)
                if fault:
                    with self.assertRaises(NotClosed) as caught:
                        kept(part_of, table, lot)
                    self.assertEqual(repr(caught.exception.fault), repr(fault))
                    continue
                part = kept(part_of, table, lot)
                self.assertIs(is_table(part), True)
                for k, s in enumerate(lot):
                    self.assertEqual([lot[part[1][k]], lot[part[2][k]]], [table[1][s], table[2][s]])
                    self.assertEqual([lot[one] for one in part[0][k]], [table[0][s][t] for t in lot])
                for names in subsets(len(lot)):
                    self.assertEqual(lot[mixed_as_told(part, names)], mixed_as_told(table, [lot[k] for k in names]))

    def test_a_part_of_a_lawful_table_is_lawful(self):
        for table in LAWFUL:
            for lot in subsets(len(table[0])):
                if fault_as_told(table, lot) is None:
                    self.assertIsNone(first_broken(part_of(table, lot)))


class Pairs(unittest.TestCase):
    def test_side_by_side(self):
        self.assertEqual(kept(side_by_side, HAS, FIRST), SIX)
        self.assertEqual(kept(side_by_side, ONE, FIRST), FIRST)
        self.assertEqual(kept(side_by_side, SIX, ONE), SIX)
        rng = random.Random(33)
        for n, m in [(1, 1), (1, 6), (6, 1), (2, 2), (2, 3), (3, 2), (1, 4), (5, 1)]:
            one, other = random_table(rng, n), random_table(rng, m)
            table = kept(side_by_side, one, other)
            self.assertIs(is_table(table), True)
            for p in range(n * m):
                s, t = divmod(p, m)
                self.assertEqual([table[1][p], table[2][p]], [one[1][s] * m + other[1][t], one[2][s] * m + other[2][t]])
                for q in range(n * m):
                    self.assertEqual(table[0][p][q], one[0][s][q // m] * m + other[0][t][q % m])
            for lot in subsets(n * m):
                self.assertEqual(mixed_as_told(table, lot), mixed_as_told(one, [p // m for p in lot]) * m
                                 + mixed_as_told(other, [p % m for p in lot]))

    def test_more_than_six_are_too_many(self):
        for one, other in [(FIRST, FIRST), (HAS, SIX), (SIX, HAS), (SIX, SIX), (HAS, random_table(random.Random(34), 4))]:
            with self.assertRaises(TooMany) as caught:
                kept(side_by_side, one, other)
            self.assertIsInstance(caught.exception, RowError)

    def test_of_lawful_tables_it_is_lawful(self):
        for one in LAWFUL:
            for other in LAWFUL:
                if len(one[0]) * len(other[0]) <= 6:
                    self.assertIsNone(first_broken(side_by_side(one, other)))


if __name__ == "__main__":
    unittest.main()
