"""[3.2] and [3.4]: tables, what comes of answers, and powers."""

import random
import unittest

from everrows.tables import (both_of, count_of, is_table, joined_of, left_of, mixed_of, power_of, right_of, round_of,
                             still_power)
from tests.rowmaking import ODD_VALUES, kept, nearly
from tests.tablemaking import BENT, BROKEN, FIRST, HAS, LAWFUL, ONE, SIX, TURN, mixed_as_told, random_table, subsets


def table_as_told(value):
    """[3.2], straight from the document."""
    if type(value) is not tuple or len(value) != 4 or type(value[0]) is not tuple or not 1 <= len(value[0]) <= 6:
        return False
    n = len(value[0])
    for part, many in [(row, n) for row in value[0]] + [(value[1], n), (value[2], n), (value[3], 2 ** n - 1)]:
        if type(part) is not tuple or len(part) != many or any(type(s) is not int or not 0 <= s < n for s in part):
            return False
    return True


class AreTables(unittest.TestCase):
    def test_of_one_to_six_answers_lawful_or_not(self):
        rng = random.Random(21)
        for table in LAWFUL + [broken[0] for broken in BROKEN] + [random_table(rng, n) for n in range(1, 7)]:
            self.assertIs(kept(is_table, table), True, table)

    def test_too_few_and_too_many_answers(self):
        self.assertIs(is_table(((), (), (), ())), False)
        self.assertIs(is_table(((), (), (), (0,))), False)
        self.assertIs(is_table((((0,) * 7,) * 7, (0,) * 7, (0,) * 7, (0,) * 127)), False)

    def test_odd_values(self):
        for value in ODD_VALUES + (HAS[:3], HAS + (0,), (HAS,), list(HAS), HAS[::-1], (HAS[1], *HAS[1:])):
            self.assertIs(kept(is_table, value), False, value)

    def test_one_change(self):
        for table in (ONE, HAS, FIRST, BENT):
            for value in nearly(table):
                self.assertIs(kept(is_table, value), table_as_told(value), value)

    def test_true_and_false_are_no_answers(self):
        self.assertIs(is_table((((0, True), (1, 1)), (0, 1), (0, 1), (0, 1, 1))), False)
        self.assertIs(is_table((((0, 1), (1, 1)), (False, 1), (0, 1), (0, 1, 1))), False)
        self.assertIs(is_table((((0, 1), (1, 1)), (0, 1), (0, True), (0, 1, 1))), False)
        self.assertIs(is_table((((0, 1), (1, 1)), (0, 1), (0, 1), (0, 1, True))), False)
        self.assertIs(is_table((((False,),), (0,), (0,), (0,))), False)


class Told(unittest.TestCase):
    def test_each_dealing(self):
        rng = random.Random(22)
        for n in range(1, 7):
            table = random_table(rng, n)
            self.assertEqual(kept(count_of, table), n)
            for s in range(n):
                self.assertEqual([kept(right_of, table, s), kept(left_of, table, s)], [table[1][s], table[2][s]])
                self.assertEqual([kept(both_of, table, s, t) for t in range(n)], list(table[0][s]))
            for number, lot in enumerate(subsets(n)):
                self.assertEqual(kept(mixed_of, table, list(lot)), table[3][number])
                self.assertEqual(kept(mixed_of, table, list(lot[::-1] + lot)), table[3][number])
                self.assertEqual(kept(mixed_of, table, lot), table[3][number])

    def test_joined_from_the_left(self):
        table = (((1, 0), (1, 0)), (0, 0), (0, 0), (0, 0, 0))
        self.assertEqual([joined_of(table, [0]), joined_of(table, [0, 0, 0]), joined_of(table, (0, 0, 1))], [0, 1, 0])
        self.assertEqual([joined_of(FIRST, [2, 1, 0]), joined_of(HAS, [0, 0, 1, 0])], [2, 1])
        rng = random.Random(23)
        for _ in range(100):
            table, answers = random_table(rng, 4), [rng.randrange(4) for _ in range(rng.randint(1, 6))]
            came = answers[0]
            for s in answers[1:]:
                came = table[0][came][s]
            self.assertEqual(kept(joined_of, table, answers), came)
            self.assertEqual(kept(joined_of, table, tuple(answers)), came)

    def test_mixed_of_a_lot(self):
        for table in LAWFUL:
            for lot in subsets(len(table[0])):
                self.assertEqual(mixed_of(table, lot), mixed_as_told(table, lot))


# The sum, modulo six.
CIRCLE = (tuple(tuple((s + t) % 6 for t in range(6)) for s in range(6)), (0,) * 6, (0,) * 6, (0,) * 63)
# The answer s is that of s + 1 letters: here up to six letters are told apart.
LADDER = (tuple(tuple(min(s + t + 1, 5) for t in range(6)) for s in range(6)), (0,) * 6, (0,) * 6, (0,) * 63)
# Here five, then each third number is alike: 0, 1, 2, 3, 4, 2, 3, 4 ..
TAIL = (tuple(tuple(((s + t + 1) - 2) % 3 + 2 if s + t + 1 > 4 else s + t + 1 for t in range(5)) for s in range(5)),
        (0,) * 5, (0,) * 5, (0,) * 31)


class Powers(unittest.TestCase):
    def test_small_powers_are_joined_rows(self):
        for table in LAWFUL + [TURN, CIRCLE, LADDER, TAIL]:
            for s in range(len(table[0])):
                for k in range(1, 30):
                    self.assertEqual(kept(power_of, table, s, k), joined_of(table, [s] * k), (table, s, k))

    def test_great_powers_are_taken_back_by_lengths(self):
        self.assertEqual([power_of(TURN, 1, 10 ** 18), power_of(TURN, 1, 10 ** 18 - 1), power_of(TURN, 0, 10 ** 18)], [0, 1, 0])
        self.assertEqual(power_of(CIRCLE, 1, 10 ** 18), 10 ** 18 % 6)
        self.assertEqual(power_of(CIRCLE, 5, 10 ** 18 - 3), 5 * (10 ** 18 - 3) % 6)
        self.assertEqual(power_of(LADDER, 0, 10 ** 18), 5)
        self.assertEqual([power_of(TAIL, 0, 10 ** 18 + k) for k in range(3)],
                         [power_of(TAIL, 0, (10 ** 18 - 3) % 3 + 3 + k) for k in range(3)])
        for table in LAWFUL:
            for s in range(len(table[0])):
                self.assertEqual(power_of(table, s, 10 ** 18), power_of(table, s, 10 ** 18 % 60 + 60))

    def test_rounds(self):
        self.assertEqual([round_of(TURN, 0), round_of(CIRCLE, 0), round_of(CIRCLE, 1), round_of(CIRCLE, 2), round_of(CIRCLE, 3)],
                         [(1, 1), (1, 1), (1, 6), (1, 3), (1, 2)])
        self.assertEqual([round_of(LADDER, 0), round_of(LADDER, 1), round_of(LADDER, 5)], [(6, 1), (3, 1), (1, 1)])
        self.assertEqual([round_of(TAIL, 0), round_of(TAIL, 1), round_of(TAIL, 2)], [(3, 3), (2, 3), (1, 1)])
        for table in LAWFUL + [TURN, CIRCLE, LADDER, TAIL]:
            for s in range(len(table[0])):
                told = next((first, length) for first in range(1, 20) for length in range(1, 20)
                            if joined_of(table, [s] * first) == joined_of(table, [s] * (first + length)))
                self.assertEqual(kept(round_of, table, s), told)

    def test_still_powers(self):
        self.assertEqual([still_power(CIRCLE, 1), still_power(CIRCLE, 4), still_power(LADDER, 0), still_power(TAIL, 0)],
                         [0, 0, 5, 2])
        for table in LAWFUL + [TURN, CIRCLE, LADDER, TAIL]:
            for s in range(len(table[0])):
                powers = {joined_of(table, [s] * k) for k in range(1, 20)}
                self.assertEqual([kept(still_power, table, s)], [t for t in powers if table[0][t][t] == t])
                first, length = round_of(table, s)
                for k in range(first, first + 4 * length):
                    if k % length == 0:
                        self.assertEqual(power_of(table, s, k), still_power(table, s))

    def test_of_one_and_of_six_answers(self):
        self.assertEqual([power_of(ONE, 0, 10 ** 18), round_of(ONE, 0), still_power(ONE, 0)], [0, (1, 1), 0])
        self.assertEqual([power_of(SIX, 5, 10 ** 18), round_of(SIX, 5), still_power(SIX, 5)], [5, (1, 1), 5])


class RuleOne(unittest.TestCase):
    def test_the_tables_for_powers_keep_it(self):
        for table in (CIRCLE, LADDER, TAIL):
            n = len(table[0])
            for a in range(n):
                for b in range(n):
                    for c in range(n):
                        self.assertEqual(both_of(table, both_of(table, a, b), c), both_of(table, a, both_of(table, b, c)))


if __name__ == "__main__":
    unittest.main()
