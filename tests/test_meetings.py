"""[5.5]: what two readers say together, which of many agree, and which are within which."""

import random
import unittest
from itertools import product

from everrows.agreeing import agree, within
from everrows.leasts import called
from everrows.meetings import alike_lots, meetings, order_of
from everrows.steps import is_steps
from tests.pairmaking import ALL, BOTH, HASA, HASB, NONE, least_closed_pairs, some_two
from tests.rowmaking import kept
from tests.stepmaking import answers_of_steps
from tests.tablemaking import HAS, ONE, SIX, WIDE, random_reader


def some_lists():
    rng = random.Random(77)
    found = [[HASB], [HASB, HASA, HASB, ALL, NONE, BOTH], [HASB, HASB], [BOTH, HASB, ALL], [NONE, HASA], [ALL, ALL, NONE]]
    for letters in ("a", "ab", "abcde"):
        for _ in range(6):
            readers = [random_reader(rng, letters) for _ in range(rng.randint(1, 3))]
            readers += [called(reader, tuple(rng.sample(range(len(reader[0][0])), len(reader[0][0])))) for reader in readers]
            rng.shuffle(readers)
            found.append(readers)
    wide = [random_reader(rng, "abcde", [table]) for table in (SIX, WIDE[3], WIDE[6], WIDE[7], WIDE[8], WIDE[9])]
    return found + [wide]


def says_as_told(one, other):
    return {(s in one[2], u in other[2]) for s, u in least_closed_pairs(one, other)}


class Meetings(unittest.TestCase):
    def test_just_those_that_some_row_has(self):
        seen = set()
        for one, other in some_two():
            told = kept(meetings, one, other)
            self.assertEqual(set(told), says_as_told(one, other))
            seen |= set(told)
            for (yes, too), steps in told.items():
                self.assertIs(is_steps(steps), True)
                self.assertIs(answers_of_steps(one, steps)[-1] in one[2], yes)
                self.assertIs(answers_of_steps(other, steps)[-1] in other[2], too)
        self.assertEqual(seen, set(product((True, False), repeat=2)))

    def test_the_dict_is_a_new_one(self):
        meetings(HASB, HASA).clear()
        self.assertEqual(sorted(meetings(HASB, HASA)), [(False, True), (True, False), (True, True)])


class Lists(unittest.TestCase):
    def test_alike_lots(self):
        self.assertEqual(kept(alike_lots, [HASB, HASA, HASB, ALL, NONE, BOTH]), [(0, 2, 5), (1,), (3,), (4,)])
        self.assertEqual([alike_lots([HASB]), alike_lots((ALL, NONE, ALL))], [[(0,)], [(0, 2), (1,)]])
        for readers in some_lists():
            told = kept(alike_lots, readers)
            numbers = list(range(len(readers)))
            self.assertEqual(told, sorted({tuple(j for j in numbers if agree(readers[i], readers[j])[0] == "agree")
                                           for i in numbers}))
            self.assertEqual(sorted(k for lot in told for k in lot), numbers)

    def test_order(self):
        self.assertEqual(kept(order_of, [HASB, HASA, HASB, ALL, NONE]),
                         [(0, 2), (0, 3), (1, 3), (2, 0), (2, 3), (4, 0), (4, 1), (4, 2), (4, 3)])
        self.assertEqual([order_of([HASB]), order_of((ALL, HASB))], [[], [(1, 0)]])
        for readers in some_lists():
            numbers = range(len(readers))
            self.assertEqual(kept(order_of, readers), [(i, j) for i in numbers for j in numbers if i != j
                                                       and within(readers[i], readers[j])[0] == "within"])

    def test_both_ways_exactly_if_they_agree(self):
        for readers in some_lists():
            order, lots = order_of(readers), alike_lots(readers)
            both = [(i, j) for i, j in order if (j, i) in order]
            self.assertEqual(both, sorted((i, j) for lot in lots for i in lot for j in lot if i != j))

    def test_the_lists_are_new_ones(self):
        readers = [HASB, HASB, (HAS, HASB[1], ())]
        alike_lots(readers).clear()
        order_of(readers).clear()
        self.assertEqual([len(alike_lots(readers)), len(order_of(readers))], [2, 4])
        self.assertEqual(alike_lots([(ONE, (("a", 0),), ())]), [(0,)])


if __name__ == "__main__":
    unittest.main()
