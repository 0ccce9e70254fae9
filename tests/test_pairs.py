"""[5.1] and [5.2]: pairs of answers of two readers, lots of pairs that are closed, and pairs that are reached."""

import random
import time
import unittest

from everrows.pairs import leads_out, pair_of, pairs_reached
from everrows.parted import side_by_side
from everrows.steps import is_steps, letters_in, row_of
from tests.pairmaking import (HASA, HASB, closures_side_by_side, covered_as_told, leads_out_as_told, least_closed_pairs,
                              pairs_of_letters, some_two)
from tests.rowmaking import kept
from tests.stepmaking import answers_of_steps, random_steps
from tests.tablemaking import LAWFUL, SIX, WIDE, random_reader, random_table, subsets


class PairOf(unittest.TestCase):
    def test_both_answers(self):
        rng = random.Random(71)
        for one, other in some_two():
            for _ in range(6):
                steps = random_steps(rng, rng.randint(1, 10), [letter for letter, _ in one[1]])
                pair = kept(pair_of, one, other, steps)
                self.assertEqual(pair, (answers_of_steps(one, steps)[-1], answers_of_steps(other, steps)[-1]))
                self.assertIs(type(pair), tuple)


class Reached(unittest.TestCase):
    def test_the_least_closed_lot_each_with_steps(self):
        for one, other in some_two():
            told = kept(pairs_reached, one, other)
            self.assertEqual(tuple(sorted(told)), least_closed_pairs(one, other))
            for pair, steps in told.items():
                self.assertIs(is_steps(steps), True)
                self.assertLessEqual(set(letters_in(steps)), set(dict(one[1])))
                self.assertEqual(pair, (answers_of_steps(one, steps)[-1], answers_of_steps(other, steps)[-1]))
                self.assertLessEqual(len(steps), 41)

    def test_rows_have_no_others(self):
        rng = random.Random(72)
        for one, other in some_two():
            told = pairs_reached(one, other)
            for _ in range(5):
                self.assertIn(pair_of(one, other, random_steps(rng, 14, [letter for letter, _ in one[1]])), told)

    def test_as_side_by_side(self):
        looked_at = 0
        for one, other in some_two():
            if len(one[0][0]) * len(other[0][0]) <= 6:
                looked_at += 1
                table = side_by_side(one[0], other[0])
                self.assertEqual(tuple(sorted(pairs_reached(one, other))), closures_side_by_side(one, other, table))
        self.assertGreater(looked_at, 15)

    def test_pairs_that_only_mixing_tells(self):
        one, other = (LAWFUL[5], (("a", 0), ("b", 1)), ()), (LAWFUL[5], (("a", 1), ("b", 0)), ())
        told = pairs_reached(one, one)
        self.assertEqual([sorted(told), row_of(told[2, 2])], [[(0, 0), (1, 1), (2, 2)], ("mix", ("a", "b"))])
        told = pairs_reached(one, other)
        self.assertEqual(sorted(told), [(0, 1), (1, 0), (1, 1), (1, 2), (2, 1), (2, 2)])
        for pair in ((1, 2), (2, 1), (2, 2)):
            self.assertEqual([row_of(told[pair])[0], pair_of(one, other, told[pair])], ["mix", pair])

    def test_the_dict_is_a_new_one(self):
        pairs_reached(HASB, HASA).clear()
        self.assertEqual(len(pairs_reached(HASB, HASA)), 3)

    def test_two_of_six_answers_over_five_letters_take_a_bounded_time(self):
        rng = random.Random(73)
        before = time.process_time()
        for one in (SIX, WIDE[3], WIDE[6], WIDE[7]):
            for other in (SIX, WIDE[8], WIDE[9]):
                pairs_reached(random_reader(rng, "abcde", [one]), random_reader(rng, "abcde", [other]))
        self.assertLess(time.process_time() - before, 10)


class LeadsOut(unittest.TestCase):
    def test_each_word_ahead_of_the_next_ones(self):
        still, none = (0, 1), (0, 0)
        both = ((0, 0), (0, 1))
        one = ((both, still, still, (0, 1, 0)), (("a", 0), ("b", 1)), ())
        for other, pairs, told in [
                ((((1, 1), (1, 1)), (1, 1), (1, 1), (1, 1, 1)), ((0, 0),), ("both", (0, 0), (0, 0))),
                ((((0, 1), (1, 1)), none, none, (0, 0, 0)), ((0, 0), (1, 1)), ("both", (0, 0), (1, 1))),
                ((((0, 0), (1, 1)), none, none, (0, 0, 0)), ((0, 0), (1, 1)), ("both", (1, 1), (0, 0))),
                ((((0, 0), (0, 0)), none, none, (0, 0, 0)), ((0, 0), (1, 1)), ("both", (1, 1), (1, 1))),
                ((both, (1, 1), (1, 1), (1, 1, 1)), ((0, 0), (1, 1)), ("right", (0, 0))),
                ((both, (0, 0), (1, 1), (1, 1, 1)), ((0, 0), (1, 1)), ("right", (1, 1))),
                ((both, still, (1, 1), (1, 1, 1)), ((0, 0), (1, 1)), ("left", (0, 0))),
                ((both, still, (0, 0), (1, 1, 1)), ((0, 0), (1, 1)), ("left", (1, 1))),
                ((both, still, still, (1, 0, 1)), ((0, 0), (1, 1)), ("mixed", (0,), (0,))),
                ((both, still, still, (0, 0, 1)), ((0, 0), (1, 1)), ("mixed", (1,), (1,))),
                ((both, still, still, (0, 1, 1)), ((0, 0), (1, 1)), ("mixed", (0, 1), (0, 1))),
                ((both, still, still, (0, 1, 0)), ((0, 0), (1, 1)), None),
                ((both, still, still, (0, 1, 0)), ((0, 1), (1, 1)), None),
                ((both, still, still, (0, 1, 0)), ((0, 0), (0, 1), (1, 1)), None),
                ((both, still, still, (0, 0, 0)), ((0, 1), (1, 1)), ("mixed", (0,), (1,))),
                ((both, still, still, (0, 1, 1)), ((0, 0), (0, 1), (1, 1)), None),
                ((both, still, still, (0, 1, 1)), ((0, 0), (1, 0), (1, 1)), ("mixed", (0, 1), (0, 1)))]:
            other = (other, one[1], ())
            self.assertEqual(leads_out_as_told(one, other, pairs), told)
            self.assertEqual(kept(leads_out, one, other, pairs), told)

    def test_by_the_number_of_the_first_lot_and_then_of_the_second(self):
        one, other = (LAWFUL[5], HASB[1], ()), (LAWFUL[5], HASB[1], ())
        pairs = ((0, 0), (0, 1), (1, 0), (1, 1))
        self.assertEqual(leads_out(one, other, pairs), ("mixed", (0,), (0, 1)))
        self.assertEqual(leads_out(one, other, ((0, 1), (1, 1))), ("mixed", (0, 1), (1,)))
        self.assertEqual(leads_out(one, other, ((0, 0), (1, 1))), ("mixed", (0, 1), (0, 1)))

    def test_against_the_document(self):
        rng, words = random.Random(74), set()
        for one, other in some_two():
            whole = [(s, u) for s in range(len(one[0][0])) for u in range(len(other[0][0]))]
            lots = [tuple(whole), least_closed_pairs(one, other)] + [tuple(sorted({p for _, p in pairs_of_letters(one, other)}))]
            for pair in least_closed_pairs(one, other)[:4]:
                lots.append(tuple(p for p in least_closed_pairs(one, other) if p != pair))
            lots += [tuple(sorted(rng.sample(whole, rng.randint(1, len(whole))))) for _ in range(4)]
            for pairs in lots:
                if pairs:
                    fault = leads_out_as_told(one, other, pairs)
                    words.add(fault and fault[0])
                    self.assertEqual(repr(kept(leads_out, one, other, pairs)), repr(fault), (one, other, pairs))
        self.assertEqual(words, {None, "both", "right", "left", "mixed"})

    def test_mixing_tables_that_deal_with_nothing_else(self):
        """So that each lot that is covered is asked for: both, right and left lead nowhere."""
        rng = random.Random(75)
        for _ in range(60):
            n, many = rng.randint(1, 4), rng.randint(1, 4)
            pairs = tuple(sorted({(rng.randrange(n), rng.randrange(many)) for _ in range(rng.randint(1, 6))}))
            s, u = rng.choice(pairs)
            readers = []
            for k, t in ((n, s), (many, u)):
                table = (((t,) * k,) * k, (t,) * k, (t,) * k, random_table(rng, k)[3])
                readers.append((table, (("a", 0),), ()))
            self.assertEqual(kept(leads_out, *readers, pairs), leads_out_as_told(*readers, pairs))

    def test_covered(self):
        """What [5.1] calls covered, by tables that are led out by just one pair of lots."""
        pairs = ((0, 0), (0, 1), (1, 1), (2, 0))
        for A in subsets(3):
            for B in subsets(2):
                one = (((0,) * 3,) * 3, (0,) * 3, (0,) * 3, tuple(int(lot == A) for lot in subsets(3)))
                other = (((0,) * 2,) * 2, (0,) * 2, (0,) * 2, tuple(int(lot == B) for lot in subsets(2)))
                told = leads_out((one, HASB[1], ()), (other, HASB[1], ()), pairs)
                ones = [(P, Q) for P in subsets(3) for Q in subsets(2) if P == A and Q != B and covered_as_told(pairs, P, Q)]
                self.assertEqual(told, ("mixed", *ones[0]) if ones else None)


if __name__ == "__main__":
    unittest.main()
