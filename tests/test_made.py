"""[9.6] and [9.7]: readers made of what they shall tell, and of other readers."""

import random
import unittest
from itertools import permutations, product

from everrows.agreeing import agree, disjoint, within
from everrows.errors import TooMany
from everrows.leasts import least
from everrows.made import (begins_with, beside, count_to, ends_with, has_first, has_last, has_letter, negated, neighbours,
                           none_near)
from everrows.places import first_place, last_place
from everrows.readers import is_reader, says
from everrows.reached import always
from tests.cutmaking import next_pairs_as_told
from tests.onemaking import MIX_A, RICH, again_and_again, join, some_rows
from tests.pairmaking import HASA, HASB, least_closed_pairs, some_two
from tests.rowmaking import kept
from tests.stepmaking import answers_of_steps, random_steps
from tests.tablemaking import EDGES, HAS, LAWFUL, SIX, WIDE, mixed_as_told, random_reader

SOME_LETTERS = [["a"], ["z"], ["a", "b"], ["b", "a"], ("c", "a", "b"), ["b", "d", "a", "c"], ["e", "c", "a", "d", "b"]]


def many_of(row, c):
    """How many places have the letter c, 9 for nine or more, also endlessly many."""
    if isinstance(row, str):
        return int(row == c)
    many = sum(many_of(part, c) for part in ((row[1],) if row[0] in ("right", "left") else row[1]))
    return min(9, many if row[0] == "join" else 9 * many)


def told_of(row):
    """The place of the first letter of a row and of the last one, or None, and the pairs that meet."""
    return next_pairs_as_told(row)


def rows_of(letters, seed, many=60):
    rng = random.Random(seed)
    names = dict(zip("abcde", list(letters) * 5))

    def renamed(row):
        if isinstance(row, str):
            return names[row]
        return (row[0], renamed(row[1]) if row[0] in ("right", "left") else tuple(map(renamed, row[1])))
    return [renamed(row) for row in RICH + some_rows(rng, many, 4, "abcde") + some_rows(rng, many, 2, "abcde", 6)]


class Asking(unittest.TestCase):
    def judged(self, letters, call, arguments, right):
        """Compares a reader with what it shall say to rows, right telling that of a row."""
        reader = kept(call, letters, *arguments)
        self.assertIs(is_reader(reader), True, (call, letters))
        self.assertEqual([letter for letter, _ in reader[1]], sorted(letters))
        told = set()
        for row in rows_of(letters, len(letters)) + [join(one, other) for one in letters for other in letters]:
            self.assertIs(says(reader, row), right(row), (call, letters, arguments, row))
            told.add(right(row))
        self.assertEqual(call(tuple(letters), *arguments), call(list(letters), *arguments))
        return told

    def test_has_letter(self):
        for letters in SOME_LETTERS:
            for c in letters:
                told = self.judged(letters, has_letter, (c,), lambda row: many_of(row, c) > 0)
                self.assertEqual(told, {True, False} if len(letters) > 1 else {True})

    def test_begins_and_ends_with(self):
        for letters in SOME_LETTERS:
            for c in letters:
                self.assertEqual(self.judged(letters, begins_with, (c,), lambda row: told_of(row)[0] == c), {True, False})
                self.assertEqual(self.judged(letters, ends_with, (c,), lambda row: told_of(row)[1] == c), {True, False})

    def test_has_first_and_last(self):
        for letters in SOME_LETTERS:
            self.assertEqual(self.judged(letters, has_first, (), lambda row: first_place(row) is not None), {True, False})
            self.assertEqual(self.judged(letters, has_last, (), lambda row: last_place(row) is not None), {True, False})

    def test_neighbours(self):
        for letters in SOME_LETTERS:
            for c, d in product(letters, repeat=2):
                self.assertEqual(self.judged(letters, neighbours, (c, d), lambda row: (c, d) in told_of(row)[2]), {True, False})

    def test_count_to(self):
        for letters in SOME_LETTERS:
            for c, n in product(letters, range(1, 6)):
                told = self.judged(letters, count_to, (c, n), lambda row: many_of(row, c) >= n)
                self.assertIn(True, told)
        reader = count_to(["b", "a"], "a", 5)
        self.assertEqual([says(reader, join(*"a" * k, "b")) for k in range(1, 8)], [False] * 4 + [True] * 3)
        self.assertEqual([says(reader, ("right", "a")), says(reader, join(MIX_A, "b")), says(reader, ("left", "b"))], [True, True, False])

    def test_none_near(self):
        for letters in SOME_LETTERS:
            self.assertEqual(self.judged(letters, none_near, (), lambda row: not told_of(row)[2]), {True, False})
        self.assertEqual([says(none_near(["a"]), row) for row in ("a", MIX_A, join(MIX_A, "a"), join(MIX_A, "a", "a"), ("right", "a"), ("right", MIX_A))],
                         [True, True, True, False, False, True])

    def test_any_order_of_letters(self):
        for letters in permutations("abc"):
            self.assertEqual([has_letter(list(letters), "b"), begins_with(list(letters), "b"), neighbours(letters, "b", "a"), none_near(letters)],
                             [has_letter(["a", "b", "c"], "b"), begins_with(["a", "b", "c"], "b"), neighbours(["a", "b", "c"], "b", "a"), none_near("abc")])

    def test_they_go_together(self):
        letters = ["a", "b"]
        for one, other in [(begins_with(letters, "a"), has_first(letters)), (ends_with(letters, "b"), has_last(letters)),
                           (begins_with(letters, "b"), has_letter(letters, "b")), (neighbours(letters, "a", "b"), has_letter(letters, "b")),
                           (count_to(letters, "a", 3), count_to(letters, "a", 2)), (count_to(letters, "b", 1), has_letter(letters, "b"))]:
            self.assertEqual(within(one, other)[0], "within")
        self.assertEqual(agree(count_to(letters, "b", 1), has_letter(letters, "b"))[0], "agree")
        self.assertEqual(disjoint(none_near(letters), neighbours(letters, "b", "a"))[0], "disjoint")
        self.assertEqual(disjoint(begins_with(letters, "a"), begins_with(letters, "b"))[0], "disjoint")
        self.assertEqual(always(has_letter(["a"], "a"))[0], "always")

    def test_rows_that_are_one_are_answered_alike(self):
        rng = random.Random(200)
        readers = [call(["a", "b", "c"], *told) for call, *told in (
            (has_letter, "a"), (begins_with, "a"), (ends_with, "b"), (has_first,), (has_last,), (neighbours, "a", "a"), (neighbours, "b", "a"),
            (count_to, "b", 2), (count_to, "a", 5), (none_near,))]
        for row in RICH + some_rows(rng, 60, 4, "abc"):
            for other in again_and_again(rng, row, 2):
                self.assertEqual([says(reader, other) for reader in readers], [says(reader, row) for reader in readers])


class Negated(unittest.TestCase):
    def test_all_others(self):
        rng = random.Random(201)
        for one, other in some_two():
            for reader in (one, other):
                told = kept(negated, reader)
                self.assertEqual(told[:2], reader[:2])
                self.assertEqual(sorted(told[2] + reader[2]), list(range(len(reader[0][0]))))
                self.assertIs(is_reader(told), True)
                self.assertEqual(negated(told), reader)
                self.assertEqual(disjoint(reader, told)[0], "disjoint")
                letters = "".join(letter for letter, _ in reader[1])
                for row in some_rows(rng, 3, 3, letters):
                    self.assertIsNot(says(told, row), says(reader, row))


class Beside(unittest.TestCase):
    def test_against_the_document(self):
        rng, many = random.Random(202), set()
        for one, other in some_two() + [(one, negated(one)) for one, _ in some_two()]:
            pairs = least_closed_pairs(one, other)
            many.add(len(pairs))
            for word in ("and", "or"):
                if len(pairs) > 6:
                    with self.assertRaises(TooMany):
                        kept(beside, one, other, word)
                    continue
                told = kept(beside, one, other, word)
                self.assertIs(is_reader(told), True)
                (both, right, left, _), (beside_it, right_too, left_too, _) = one[0], other[0]
                for k, (s, u) in enumerate(pairs):
                    self.assertEqual([pairs[t] for t in told[0][0][k]], [(both[s][t], beside_it[u][v]) for t, v in pairs])
                    self.assertEqual([pairs[told[0][1][k]], pairs[told[0][2][k]]], [(right[s], right_too[u]), (left[s], left_too[u])])
                for number in range(1, 2 ** len(pairs)):
                    lot = [pairs[k] for k in range(len(pairs)) if number >> k & 1]
                    self.assertEqual(pairs[told[0][3][number - 1]], (mixed_as_told(one[0], [s for s, _ in lot]), mixed_as_told(other[0], [u for _, u in lot])))
                self.assertEqual([(letter, pairs[k]) for letter, k in told[1]], [(c, (s, dict(other[1])[c])) for c, s in one[1]])
                yes = [(s in one[2]) + (u in other[2]) > (word == "and") for s, u in pairs]
                self.assertEqual(told[2], tuple(k for k, it_is in enumerate(yes) if it_is))
                for _ in range(5):
                    steps = random_steps(rng, 8, "".join(letter for letter, _ in one[1]))
                    says_so = [answers_of_steps(reader, steps)[-1] in reader[2] for reader in (one, other, told)]
                    self.assertIs(says_so[2], all(says_so[:2]) if word == "and" else any(says_so[:2]))
        self.assertTrue({1, 2, 3, 4, 5, 6} <= many and max(many) > 6, many)

    def test_of_one_and_negated_one(self):
        for one, _ in some_two():
            self.assertEqual(always(beside(one, negated(one), "or"))[0], "always")
            self.assertEqual(always(negated(beside(one, negated(one), "and")))[0], "always")
            self.assertEqual(least(beside(one, one, "and")), least(one))

    def test_six_pairs_and_more(self):
        one, other = (EDGES, (("a", 3),), (1, 3)), (WIDE[3], (("a", 1),), (5,))
        self.assertEqual(len(least_closed_pairs(one, other)), 8)
        with self.assertRaises(TooMany):
            beside(one, other, "or")
        letters = (("a", 4), ("b", 2), ("c", 1))
        self.assertEqual(beside((SIX, letters, (3, 4)), (SIX, letters, (0, 4)), "and"), (SIX, letters, (4,)))
        self.assertEqual(beside((SIX, letters, (3, 4)), (SIX, letters, (0, 4)), "or"), (SIX, letters, (0, 3, 4)))
        self.assertEqual(len(beside(HASA, HASB, "and")[0][0]), 3)

    def test_readers_of_six_answers_over_five_letters(self):
        rng = random.Random(203)
        for tables in product([LAWFUL[3], WIDE[3], WIDE[6]], [WIDE[7], WIDE[8], HAS]):
            one, other = (random_reader(rng, "abcde", [table]) for table in tables)
            try:
                self.assertIs(is_reader(beside(one, other, "or")), True)
            except TooMany:
                self.assertGreater(len(least_closed_pairs(one, other)), 6)


if __name__ == "__main__":
    unittest.main()
