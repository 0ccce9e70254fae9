"""[3.1]: answers, lots and their numbers."""

import random
import unittest

from everrows.lots import is_lot, lot_of, lots, number_of
from tests.rowmaking import ODD_VALUES, kept, nearly
from tests.tablemaking import subsets


class Lots(unittest.TestCase):
    def test_by_their_numbers(self):
        self.assertEqual(lots(1), [(0,)])
        self.assertEqual(lots(3), [(0,), (1,), (0, 1), (2,), (0, 2), (1, 2), (0, 1, 2)])
        for n in range(1, 7):
            self.assertEqual(lots(n), subsets(n))
            self.assertEqual([number_of(lot) for lot in lots(n)], list(range(2 ** n - 1)))

    def test_numbers(self):
        self.assertEqual([number_of((0,)), number_of((5,)), number_of((0, 1, 2, 3, 4, 5)), number_of((1, 4))], [0, 31, 62, 17])

    def test_the_list_is_a_new_one(self):
        lots(3).clear()
        self.assertEqual(len(lots(3)), 7)


class AreLots(unittest.TestCase):
    def test_all_lots(self):
        for n in range(1, 7):
            for lot in subsets(6):
                self.assertIs(kept(is_lot, lot, n), lot[-1] < n, (lot, n))

    def test_what_is_none(self):
        for value in [(), (1, 0), (0, 0), (0, 1, 1), (2, 1), (6,), (-1,), (-1, 0), (True,), (False,), (0, True), (False, 1), [0],
                      [0, 1], (0, [1]), ((0,),), ("0",), (None,), (0, None), "0", 0, None, True, {0: 1}, (0, 10 ** 39)]:
            self.assertIs(kept(is_lot, value, 6), False, value)
        for value in ODD_VALUES:
            self.assertIs(kept(is_lot, value, 6), False, value)

    def test_one_change(self):
        for lot in subsets(4):
            for value in nearly(lot):
                told = (isinstance(value, tuple) and len(value) > 0 and all(type(s) is int and 0 <= s < 4 for s in value)
                        and list(value) == sorted(set(value)))
                self.assertIs(kept(is_lot, value, 4), told, value)


class Made(unittest.TestCase):
    def test_in_any_order_as_often_as_one_likes(self):
        self.assertEqual([kept(lot_of, [3]), kept(lot_of, [5, 0, 5, 3, 0]), kept(lot_of, (2, 1))], [(3,), (0, 3, 5), (1, 2)])
        rng = random.Random(20)
        for _ in range(100):
            answers = [rng.randrange(6) for _ in range(rng.randint(1, 9))]
            self.assertEqual(kept(lot_of, answers), tuple(s for s in range(6) if s in answers))
            self.assertEqual(lot_of(tuple(answers)), lot_of(answers))
            self.assertIs(is_lot(lot_of(answers), 6), True)


if __name__ == "__main__":
    unittest.main()
