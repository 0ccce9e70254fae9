"""[4.4]: closed lots, the dealings that lead out of others, and the layers of lots that grow."""

import random
import unittest

from everrows.closed import closed_fault, closed_lots, layers
from everrows.parted import closed_lot
from tests.rowmaking import kept
from tests.stepmaking import closure_as_told
from tests.tablemaking import (BENT, BROKEN, FIRST, HAS, LAWFUL, ONE, SIX, TURN, WIDE, fault_as_told, mixed_as_told,
                               random_table, subsets)


def some_tables():
    rng = random.Random(60)
    tables = LAWFUL + WIDE + [TURN, BENT] + [broken[0] for broken in BROKEN]
    return tables + [random_table(rng, n) for n in (1, 1, 2, 2, 3, 3, 3, 4, 4, 5, 6, 6)]


def layers_as_told(table, lot):
    """[4.4], straight from the document."""
    both, right, left, _ = table
    found = [lot]
    while True:
        ahead = found[-1]
        more = set(ahead) | {both[s][t] for s in ahead for t in ahead} | {right[s] for s in ahead} | {left[s] for s in ahead}
        more |= {mixed_as_told(table, part) for part in subsets(6) if set(part) <= set(ahead)}
        if len(more) == len(ahead):
            return found
        found.append(tuple(sorted(more)))


class Faults(unittest.TestCase):
    def test_each_dealing_ahead_of_the_next_ones(self):
        both, still = ((0, 0, 0), (0, 1, 1), (0, 1, 2)), (0, 1, 2)
        for table, lot, fault in [
                ((((2, 2, 0), (2, 2, 1), (0, 1, 2)), (2,) * 3, (2,) * 3, (2,) * 7), (0, 1), ("both", 0, 0)),
                ((((0, 2, 0), (2, 2, 1), (0, 1, 2)), (2,) * 3, (2,) * 3, (2,) * 7), (0, 1), ("both", 0, 1)),
                ((((0, 1, 0), (2, 2, 1), (0, 1, 2)), (2,) * 3, (2,) * 3, (2,) * 7), (0, 1), ("both", 1, 0)),
                ((((0, 1, 0), (0, 2, 1), (0, 1, 2)), (2,) * 3, (2,) * 3, (2,) * 7), (0, 1), ("both", 1, 1)),
                ((both, (2, 2, 0), (2, 2, 0), (2,) * 7), (0, 1), ("right", 0)),
                ((both, (0, 2, 0), (2, 2, 0), (2,) * 7), (0, 1), ("right", 1)),
                ((both, still, (2, 2, 0), (2,) * 7), (0, 1), ("left", 0)),
                ((both, still, (0, 2, 0), (2,) * 7), (0, 1), ("left", 1)),
                ((both, still, still, (2, 2, 2, 2, 0, 0, 0)), (0, 1), ("mixed", (0,))),
                ((both, still, still, (0, 2, 2, 2, 0, 0, 0)), (0, 1), ("mixed", (1,))),
                ((both, still, still, (0, 1, 2, 2, 2, 2, 2)), (0, 1), ("mixed", (0, 1))),
                ((both, still, still, (0, 1, 0, 2, 2, 2, 2)), (0, 1), None),
                ((both, still, still, (0, 0, 0, 0, 0, 0, 0)), (1, 2), ("mixed", (1,))),
                ((both, still, still, (0, 1, 0, 0, 0, 0, 0)), (1, 2), ("mixed", (2,))),
                ((both, still, still, (0, 1, 0, 2, 0, 0, 0)), (1, 2), ("mixed", (1, 2)))]:
            self.assertEqual(kept(closed_fault, table, lot), fault)
        self.assertEqual(closed_fault(SIX, (0, 1, 2, 3, 4, 5)), None)

    def test_against_the_document(self):
        words = set()
        for table in some_tables():
            for lot in subsets(len(table[0])):
                fault = fault_as_told(table, lot)
                words.add(fault and fault[0])
                self.assertEqual(repr(kept(closed_fault, table, lot)), repr(fault), (table, lot))
        self.assertEqual(words, {None, "both", "right", "left", "mixed"})


class Layers(unittest.TestCase):
    def test_one_dealing_at_a_time(self):
        self.assertEqual(kept(layers, WIDE[3], (1,)), [(1,), (1, 2, 5), (1, 2, 3, 4, 5)])
        self.assertEqual(kept(layers, WIDE[6], (1,)), [(1,), (1, 2, 5), (1, 2, 3, 4, 5), (0, 1, 2, 3, 4, 5)])
        self.assertEqual([layers(ONE, (0,)), layers(FIRST, (2,)), layers(HAS, (0, 1))], [[(0,)], [(2,), (0, 2)], [(0, 1)]])

    def test_against_the_document(self):
        for table in some_tables():
            for lot in subsets(len(table[0])):
                told = kept(layers, table, lot)
                self.assertEqual(told, layers_as_told(table, lot), (table, lot))
                self.assertEqual(told[-1], closure_as_told(table, lot))
                self.assertEqual(told[-1], closed_lot(table, list(lot)))

    def test_the_list_is_a_new_one(self):
        layers(FIRST, (2,)).clear()
        closed_lots(FIRST).clear()
        self.assertEqual([len(layers(FIRST, (2,))), len(closed_lots(FIRST))], [2, 4])


class ClosedLots(unittest.TestCase):
    def test_all_by_their_numbers(self):
        self.assertEqual(kept(closed_lots, FIRST), [(0,), (0, 1), (0, 2), (0, 1, 2)])
        self.assertEqual([closed_lots(ONE), closed_lots(TURN)], [[(0,)], [(0,), (0, 1)]])
        for table in some_tables():
            told = [lot for lot in subsets(len(table[0])) if closure_as_told(table, lot) == lot]
            self.assertEqual(kept(closed_lots, table), told, table)


if __name__ == "__main__":
    unittest.main()
