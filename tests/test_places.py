"""Part 2 as far as places go: addresses, their order, neighbours, counts and lists; and [1.2], what places rows tell."""

import random
import unittest

from everrows.errors import TooMany
from everrows.places import (comes_ahead, count, first_place, is_place, last_place, letter_at, next_place, place_before,
                             places)
from everrows.rows import copies, joined
from tests.rowmaking import ODD_VALUES, kept, nearly, order_key, random_place, random_row, window

AB = ("join", ("a", "b"))
ROUND, BACK, MIX = ("right", AB), ("left", AB), ("mix", ("a", ("right", "b")))


def is_number(value):
    return type(value) is int


def place_as_told(row, value):
    """[2.1], straight from the document, for numbers n that are not too great for a power."""
    if type(value) is not tuple:
        return False
    if isinstance(row, str):
        return value == ()
    word, told = row
    if word == "mix":
        if len(value) < 2 or not is_number(value[0]) or not is_number(value[1]):
            return False
        k, n = value[:2]
        if n < 1 or k < 1 or k >= 2 ** n or k % 2 == 0:
            return False
        return place_as_told(told[(n - 1) % len(told)], value[2:])
    if not value or not is_number(value[0]) or value[0] < 0:
        return False
    if word == "join":
        return value[0] < len(told) and place_as_told(told[value[0]], value[1:])
    return place_as_told(told, value[1:])


def letter_as_told(row, place):
    if isinstance(row, str):
        return row
    word, told = row
    if word == "mix":
        return letter_as_told(told[(place[1] - 1) % len(told)], place[2:])
    return letter_as_told(told[place[0]] if word == "join" else told, place[1:])


class Addresses(unittest.TestCase):
    def test_each_dealing(self):
        for row, place in [("a", ()), (AB, (0,)), (AB, (1,)), (ROUND, (0, 0)), (ROUND, (9, 1)), (BACK, (9, 1)),
                           (MIX, (1, 1)), (MIX, (1, 3)), (MIX, (7, 3)), (MIX, (1, 2, 0)), (MIX, (3, 2, 9)), (MIX, (63, 6, 0)),
                           (("mix", ("a", "b", "c")), (5, 3)), (("join", (MIX, ROUND)), (0, 3, 2, 4)),
                           (("right", "a"), (10 ** 39,)), (("left", "a"), (10 ** 39,)), (("mix", ("a",)), (1, 10 ** 39)),
                           (("mix", ("a",)), (2 ** 129 - 1, 129)), (("mix", ("a",)), (10 ** 39 + 1, 10 ** 39))]:
            self.assertIs(kept(is_place, row, place), True, (row, place))

    def test_what_is_none(self):
        for row, value in [("a", (0,)), ("a", []), ("a", None), ("a", "a"), (AB, ()), (AB, (2,)), (AB, (-1,)), (AB, (0, 0)),
                           (AB, [0]), (AB, (True,)), (AB, (False,)), (AB, ("0",)), (AB, (None,)), (AB, ((),)), (AB, ((0,),)),
                           (AB, 0), (ROUND, (0,)), (ROUND, (-1, 0)), (ROUND, (0, 2)), (ROUND, (False, 0)), (ROUND, (0, True)),
                           (ROUND, ([0], 0)), (ROUND, [0, 0]), (ROUND, (0, 0, 0)), (BACK, (-1, 0)), (BACK, (0, [0])),
                           (MIX, ()), (MIX, (1,)), (MIX, (0, 1)), (MIX, (2, 1)), (MIX, (3, 1)), (MIX, (-1, 1)), (MIX, (1, 0)),
                           (MIX, (1, -1)), (MIX, (2, 2, 0)), (MIX, (5, 2, 0)), (MIX, (1, 2)), (MIX, (1, 1, 0)),
                           (MIX, (True, 1)), (MIX, (1, True)), (MIX, (1, None)), (MIX, ("1", 1)), (MIX, [1, 1]),
                           (MIX, ([1], 1)), (MIX, ((1, 1),)), (MIX, (1, 2, True)), (MIX, (1, 2, False)),
                           (("mix", ("a",)), (2 ** 129 + 1, 129)), (("mix", ("a",)), (10 ** 38, 10 ** 39)),
                           (("mix", ("a",)), (1, -10 ** 39))]:
            self.assertIs(kept(is_place, row, value), False, (row, value))

    def test_odd_values(self):
        for row in ("a", AB, ROUND, BACK, MIX):
            for value in ODD_VALUES:
                self.assertIs(is_place(row, value), row == "a" and value == () and isinstance(value, tuple), (row, value))

    def test_addresses_with_one_change(self):
        rng = random.Random(5)
        for _ in range(150):
            row = random_row(rng, 4)
            place = random_place(rng, row)
            self.assertIs(is_place(row, place), True)
            for value in nearly(place):
                self.assertIs(kept(is_place, row, value), place_as_told(row, value), (row, value))

    def test_letters(self):
        self.assertEqual([letter_at(AB, (0,)), letter_at(AB, (1,)), letter_at("c", ())], ["a", "b", "c"])
        self.assertEqual([letter_at(("mix", ("a", "b", "c")), (1, n)) for n in range(1, 7)], list("abcabc"))
        rng = random.Random(6)
        for _ in range(300):
            row = random_row(rng, 5)
            place = random_place(rng, row)
            self.assertEqual(kept(letter_at, row, place), letter_as_told(row, place))


class Order(unittest.TestCase):
    def test_in_each_dealing(self):
        for row, first, second in [(AB, (0,), (1,)), (ROUND, (0, 1), (1, 0)), (BACK, (1, 1), (0, 0)), (MIX, (1, 2, 9), (1, 1)),
                                   (MIX, (1, 1), (3, 2, 0)), (MIX, (1, 3), (1, 2, 0)), (MIX, (1, 2, 0), (3, 3)),
                                   (MIX, (1, 2, 3), (1, 2, 4)), (("mix", ("a",)), (31, 6), (1, 1)),
                                   (("join", (BACK, ROUND)), (0, 0, 1), (1, 0, 0))]:
            self.assertIs(kept(comes_ahead, row, first, second), True)
            self.assertIs(kept(comes_ahead, row, second, first), False)
            self.assertIs(comes_ahead(row, first, first), False)

    def test_against_the_document(self):
        rng = random.Random(7)
        for _ in range(1500):
            row = random_row(rng, 4)
            one, other = random_place(rng, row, 3, 3), random_place(rng, row, 3, 3)
            self.assertIs(kept(comes_ahead, row, one, other), order_key(row, one) < order_key(row, other))


class Ends(unittest.TestCase):
    def test_each_dealing(self):
        for row, first, last in [("a", (), ()), (AB, (0,), (1,)), (ROUND, (0, 0), None), (BACK, None, (0, 1)), (MIX, None, None),
                                 (("join", (ROUND, BACK)), (0, 0, 0), (1, 0, 1)), (("join", (BACK, ROUND)), None, None),
                                 (("join", (AB, MIX)), (0, 0), None), (("join", (MIX, AB)), None, (1, 1)),
                                 (("right", ROUND), (0, 0, 0), None), (("right", BACK), None, None),
                                 (("left", BACK), None, (0, 0, 1)), (("left", ROUND), None, None), (("right", MIX), None, None),
                                 (("mix", ("a",)), None, None)]:
            self.assertEqual(kept(first_place, row), first, row)
            self.assertEqual(kept(last_place, row), last, row)

    def test_no_place_is_ahead_of_the_first_or_behind_the_last(self):
        rng = random.Random(8)
        for _ in range(400):
            row = random_row(rng, 4)
            first, last = first_place(row), last_place(row)
            # Without a first place some place is ahead of each; three copies, or halvings, more have one of them.
            small, great = window(row, 2, 2), window(row, 3, 3)
            self.assertEqual(first is not None, small[0] == great[0], row)
            self.assertEqual(last is not None, small[-1] == great[-1], row)
            self.assertIn(first, (None, small[0]))
            self.assertIn(last, (None, small[-1]))


class Neighbours(unittest.TestCase):
    def test_each_dealing(self):
        for row, place, following in [
                (AB, (0,), (1,)), (ROUND, (0, 0), (0, 1)), (ROUND, (9, 1), (10, 0)), (BACK, (1, 1), (0, 0)),
                (("join", (AB, "c")), (0, 1), (1,)), (("join", (BACK, "c")), (0, 0, 1), (1,)),
                (("join", ("c", ROUND)), (0,), (1, 0, 0)), (("join", (BACK, ROUND)), (0, 0, 1), (1, 0, 0)),
                (("right", ("join", ("a", ROUND))), (0, 0), (0, 1, 0, 0)), (("left", ("right", "a")), (1, 0), (1, 1)),
                (("mix", (AB,)), (1, 2, 0), (1, 2, 1)), (("join", (("join", ("a", AB)), "c")), (0, 1, 1), (1,))]:
            self.assertEqual(kept(next_place, row, place), following, (row, place))
            self.assertEqual(kept(place_before, row, following), place, (row, following))

    def test_places_without_one(self):
        for row, place in [("a", ()), (AB, (1,)), (BACK, (0, 1)), (MIX, (1, 1)), (("mix", (AB,)), (1, 2, 1)),
                           (("join", ("a", BACK)), (0,)), (("join", ("a", MIX)), (0,)), (("right", BACK), (0, 0, 1)),
                           (("left", BACK), (1, 0, 1)), (("join", (("mix", ("a",)), "b")), (0, 1, 1))]:
            self.assertIsNone(kept(next_place, row, place), (row, place))
        for row, place in [("a", ()), (AB, (0,)), (ROUND, (0, 0)), (MIX, (1, 1)), (MIX, (1, 2, 0)),
                           (("join", (ROUND, "a")), (1,)), (("join", (MIX, "a")), (1,)), (("left", ROUND), (0, 0, 0)),
                           (("right", ROUND), (1, 0, 0))]:
            self.assertIsNone(kept(place_before, row, place), (row, place))

    def test_against_lists_of_places(self):
        rng = random.Random(9)
        for _ in range(150):
            row = random_row(rng, 3)
            small, great = window(row, 2, 2), window(row, 3, 3)
            for place in small:
                following = next_place(row, place)
                behind = [[other for other in some if order_key(row, other) > order_key(row, place)][:1]
                          for some in (small, great)]
                if following is not None:
                    self.assertTrue(comes_ahead(row, place, following))
                    self.assertEqual(place_before(row, following), place)
                    self.assertIn(behind[1], ([], [following]))
                else:
                    # Either nothing is behind, or with more copies and halvings there is always something nearer.
                    self.assertTrue(place == last_place(row) or behind[0] != behind[1], (row, place))
                before = place_before(row, place)
                if before is not None:
                    self.assertEqual(next_place(row, before), place)


class Counts(unittest.TestCase):
    def test_finite_rows_have_as_many_places_as_letters(self):
        self.assertEqual([count("a"), count(AB), count(copies(AB, 20)), count(joined([copies("a", 7), "b"]))], [1, 2, 40, 8])

    def test_all_others_have_endlessly_many(self):
        for row in (ROUND, BACK, MIX, ("mix", ("a",)), ("join", ("a", ("right", "a"))), ("join", (AB, ("join", (AB, BACK))))):
            self.assertIsNone(kept(count, row), row)


class Lists(unittest.TestCase):
    def test_copies_and_halvings(self):
        mix = ("mix", ("a", "b"))
        self.assertEqual(kept(places, "a", 0, 0), [()])
        self.assertEqual(kept(places, ROUND, 0, 6), [])
        self.assertEqual(kept(places, mix, 6, 0), [])
        self.assertEqual(kept(places, mix, 0, 1), [(1, 1)])
        self.assertEqual(kept(places, mix, 0, 3), [(1, 3), (1, 2), (3, 3), (1, 1), (5, 3), (3, 2), (7, 3)])
        self.assertEqual(kept(places, ("left", AB), 2, 0), [(1, 0), (1, 1), (0, 0), (0, 1)])
        self.assertEqual(kept(places, ("join", ("a", ROUND, "b")), 1, 0), [(0,), (1, 0, 0), (1, 0, 1), (2,)])

    def test_places_told_by_a_row_stand_in_its_order(self):
        letters = [letter_at(("mix", ("a", "b", "c")), place) for place in places(("mix", ("a", "b", "c")), 0, 4)]
        self.assertEqual("".join(letters), "acabaca" + "a" + "acabaca")
        letters = [letter_at(("left", ("join", ("a", ("right", "b")))), place)
                   for place in places(("left", ("join", ("a", ("right", "b")))), 2, 0)]
        self.assertEqual("".join(letters), "abbabb")

    def test_against_the_document(self):
        rng = random.Random(10)
        raised = 0
        for _ in range(400):
            row, below, halvings = random_row(rng, 4), rng.randint(0, 4), rng.randint(0, 4)
            told = window(row, below, halvings)
            if len(told) > 400:
                self.assertRaises(TooMany, kept, places, row, below, halvings)
                raised += 1
            else:
                self.assertEqual(kept(places, row, below, halvings), told)
        self.assertGreater(raised, 5)

    def test_four_hundred_are_not_too_many(self):
        row = ("right", copies(copies("a", 10), 10))
        self.assertEqual(len(places(row, 4, 0)), 400)
        self.assertRaises(TooMany, places, ("join", (row, "a")), 4, 0)
        self.assertRaises(TooMany, places, row, 5, 0)
        self.assertEqual(len(places(copies(copies("a", 20), 20), 0, 0)), 400)
        self.assertRaises(TooMany, places, joined([copies(copies("a", 20), 20), "a"]), 0, 0)
        mix = ("mix", (copies(copies("a", 20), 20), "b"))
        self.assertEqual(len(places(mix, 0, 1)), 400)
        self.assertRaises(TooMany, places, mix, 0, 2)

    def test_the_number_is_looked_at_ahead_of_listing(self):
        row = "a"
        for _ in range(40):
            row = ("right", ("mix", (row,)))
        self.assertRaises(TooMany, places, row, 6, 6)
        self.assertEqual(places(row, 0, 6), [])
        self.assertEqual(places(("right", ("mix", (row, "a"))), 6, 0), [])
        self.assertEqual(places(("mix", ("a", row)), 6, 1), [(1, 1)])
        self.assertRaises(TooMany, places, ("right", "a"), 10 ** 9, 0)
        self.assertEqual(places(("right", ("mix", ("a",))), 10 ** 9, 0), [])

    def test_the_list_is_a_new_one(self):
        for row in ("a", AB, ROUND):
            first = places(row, 1, 1)
            first.append(())
            self.assertEqual(len(places(row, 1, 1)), len(first) - 1)


class Deep(unittest.TestCase):
    def test_a_row_within_many_rows(self):
        row, place = "a", ()
        for _ in range(3000):
            row, place = ("join", (row, "b")), (0,) + place
        self.assertTrue(is_place(row, place))
        self.assertEqual([letter_at(row, place), first_place(row) == place, next_place(row, place) == place[:-1] + (1,)],
                         ["a", True, True])
        self.assertEqual([count(row), comes_ahead(row, place, (1,)), place_before(row, (1,))], [3001, True, (0, 1)])


if __name__ == "__main__":
    unittest.main()
