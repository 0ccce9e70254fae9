"""Part 2 as far as what is ahead, behind and between goes: each word by word."""

import random
import unittest

from everrows.places import comes_ahead, count, letter_at, next_place, places
from everrows.rows import copies, is_row, joined
from everrows.sides import ahead, are_near, behind, between, laid, many_between, put_at
from tests.rowmaking import kept, order_key, random_place, random_row, window

AB = ("join", ("a", "b"))
ROUND, BACK, MIX = ("right", AB), ("left", AB), ("mix", ("a", ("right", "b")))


def laid_as_told(rows):
    def opened(row):
        return [inner for part in row[1] for inner in opened(part)] if row[0] == "join" else [row]
    if len(rows) < 2:
        return rows[0] if rows else None
    return ("join", tuple(inner for row in rows for inner in opened(row)))


def some(*lists):
    return [row for rows in lists for row in rows if row is not None]


def inside(row, place):
    """The part or copy of a place, and the address in it."""
    if row[0] == "mix":
        return row[1][(place[1] - 1) % len(row[1])], place[2:]
    return row[1][place[0]] if row[0] == "join" else row[1], place[1:]


def sides_as_told(row, place):
    """[2.4], straight from the document: (what is ahead, what is behind)."""
    if isinstance(row, str):
        return None, None
    first, second = sides_as_told(*inside(row, place))
    word, told = row
    k = place[0]
    if word == "join":
        return laid_as_told(some(told[:k], [first])), laid_as_told(some([second], told[k + 1:]))
    if word == "right":
        return laid_as_told(some([told] * k, [first])), laid_as_told(some([second], [row]))
    if word == "left":
        return laid_as_told(some([row], [first])), laid_as_told(some([second], [told] * k))
    return laid_as_told(some([row], [first])), laid_as_told(some([second], [row]))


def between_as_told(row, one, other):
    """[2.5], straight from the document."""
    word, told = row
    width = 2 if word == "mix" else 1
    if one[:width] == other[:width]:
        return between_as_told(inside(row, one)[0], one[width:], other[width:])
    behind_one, ahead_other = sides_as_told(*inside(row, one))[1], sides_as_told(*inside(row, other))[0]
    if word == "join":
        middle = told[one[0] + 1:other[0]]
    elif word == "mix":
        middle = [row]
    else:
        middle = [told] * (max(one[0], other[0]) - min(one[0], other[0]) - 1)
    return laid_as_told(some([behind_one], middle, [ahead_other]))


def endless(row):
    return not isinstance(row, str) and (row[0] != "join" or any(endless(part) for part in row[1]))


class Laid(unittest.TestCase):
    def test_none_and_one(self):
        nested = ("join", (AB, AB))
        self.assertIsNone(laid([]))
        self.assertIsNone(laid(()))
        for row in ("a", AB, nested, ROUND):
            self.assertEqual(kept(laid, [row]), row)
            self.assertEqual(kept(laid, (row,)), row)

    def test_joins_are_laid_open_but_not_within_others(self):
        nested = ("join", (("join", (AB, "c")), ROUND))
        self.assertEqual(kept(laid, [nested, nested]), ("join", ("a", "b", "c", ROUND, "a", "b", "c", ROUND)))
        inner = ("join", (AB, AB))
        rows = [("right", inner), ("left", inner), ("mix", (inner,))]
        self.assertEqual(kept(laid, rows), ("join", tuple(rows)))
        self.assertEqual(kept(laid, tuple(rows)), ("join", tuple(rows)))

    def test_the_list_that_is_passed_is_not_kept(self):
        rows = ["a", AB]
        row = laid(rows)
        rows.append("c")
        self.assertEqual(row, ("join", ("a", "a", "b")))

    def test_against_the_document(self):
        rng = random.Random(11)
        for _ in range(400):
            rows = [random_row(rng, 3) for _ in range(rng.randint(0, 4))]
            self.assertEqual(kept(laid, rows), laid_as_told(rows))

    def test_many_joins_within_one_another(self):
        row = "a"
        for _ in range(3000):
            row = joined([row, "b"])
        self.assertEqual(laid([row, "c"]), ("join", ("a",) + ("b",) * 3000 + ("c",)))
        self.assertIs(laid([row]), row)


class Sides(unittest.TestCase):
    def test_of_a_letter(self):
        self.assertIsNone(ahead("a", ()))
        self.assertIsNone(behind("a", ()))

    def test_in_a_join(self):
        row = ("join", (AB, "c", ("join", ("a", ("right", "d")))))
        self.assertEqual(ahead(row, (0, 0)), None)
        self.assertEqual(ahead(row, (1,)), AB)
        self.assertEqual(ahead(row, (2, 1, 2)), ("join", ("a", "b", "c", "a", "d", "d")))
        self.assertEqual(behind(row, (2, 1, 2)), ("right", "d"))
        self.assertEqual(behind(row, (0, 0)), ("join", ("b", "c", "a", ("right", "d"))))

    def test_one_row_alone_is_not_laid_open(self):
        nested = ("join", (AB, "c"))
        self.assertEqual(ahead(("join", (nested, "d")), (1,)), nested)
        self.assertEqual(behind(("join", ("d", nested)), (0,)), nested)
        self.assertEqual(ahead(("right", nested), (1, 0, 0)), nested)
        self.assertEqual(behind(("left", nested), (1, 1)), nested)
        self.assertEqual(between(("right", nested), (0, 1), (2, 0, 0)), nested)

    def test_in_copies(self):
        self.assertEqual(ahead(ROUND, (2, 0)), ("join", ("a", "b", "a", "b")))
        self.assertEqual(behind(ROUND, (2, 0)), ("join", ("b", ROUND)))
        self.assertEqual(ahead(BACK, (2, 1)), ("join", (BACK, "a")))
        self.assertEqual(ahead(BACK, (2, 0)), BACK)
        self.assertEqual(behind(BACK, (0, 1)), None)
        self.assertEqual([ahead(MIX, (3, 2, 0)), behind(MIX, (1, 1))], [MIX, MIX])
        self.assertEqual(ahead(MIX, (3, 2, 2)), ("join", (MIX, "b", "b")))

    def test_against_the_document(self):
        rng = random.Random(12)
        for _ in range(800):
            row = random_row(rng, 4)
            place = random_place(rng, row)
            told = sides_as_told(row, place)
            self.assertEqual((kept(ahead, row, place), kept(behind, row, place)), told)
            self.assertTrue(all(one is None or is_row(one) for one in told))

    def test_none_just_if_no_place_is_there(self):
        rng = random.Random(13)
        for _ in range(100):
            row = random_row(rng, 3)
            listed = window(row, 3, 3)
            for place in window(row, 2, 2):
                self.assertEqual(ahead(row, place) is None, place == listed[0])
                self.assertEqual(behind(row, place) is None, place == listed[-1])


class Between(unittest.TestCase):
    def test_in_each_dealing(self):
        row = ("join", (AB, "c", "d", AB))
        for whole, one, other, told in [
                (row, (0, 0), (0, 1), None), (row, (0, 1), (1,), None), (row, (0, 0), (3, 1), ("join", ("b", "c", "d", "a"))),
                (row, (0, 1), (2,), "c"), (row, (1,), (3, 0), "d"),
                (ROUND, (1, 0), (1, 1), None), (ROUND, (0, 0), (3, 1), ("join", ("b", "a", "b", "a", "b", "a"))),
                (BACK, (3, 1), (1, 0), AB), (BACK, (3, 0), (2, 1), ("join", ("b", "a"))), (BACK, (0, 0), (0, 1), None),
                (MIX, (1, 2, 0), (1, 1), ("join", (("right", "b"), MIX))), (MIX, (1, 1), (3, 2, 0), MIX),
                (MIX, (1, 2, 1), (3, 2, 2), ("join", (("right", "b"), MIX, "b", "b"))), (MIX, (1, 2, 0), (1, 2, 1), None)]:
            self.assertEqual(kept(between, whole, one, other), told, (whole, one, other))

    def test_what_is_in_one_part_is_not_laid_with_the_others(self):
        nested = ("join", ("a", ("join", (AB, "c")), "d"))
        self.assertEqual(between(("right", nested), (4, 0), (4, 2)), ("join", (AB, "c")))

    def test_against_the_document(self):
        rng = random.Random(14)
        for _ in range(1000):
            row = random_row(rng, 4)
            one, other = random_place(rng, row), random_place(rng, row)
            if one == other:
                self.assertIs(are_near(row, one, other), True)
                continue
            if order_key(row, one) > order_key(row, other):
                one, other = other, one
            told = between_as_told(row, one, other)
            self.assertEqual(kept(between, row, one, other), told)
            many = 0 if told is None else None if endless(told) else len(places(told, 1, 1))
            self.assertEqual(kept(many_between, row, one, other), many)
            self.assertIs(kept(are_near, row, one, other), many is not None)
            self.assertIs(kept(are_near, row, other, one), many is not None)

    def test_many_between_counts_the_places_that_are_stepped_over(self):
        rng = random.Random(15)
        for _ in range(200):
            row = random_row(rng, 4)
            one = place = random_place(rng, row)
            for many in range(6):
                place = next_place(row, place)
                if place is None:
                    break
                self.assertEqual(many_between(row, one, place), many)
                self.assertIs(are_near(row, place, one), True)

    def test_far_from_one_another(self):
        row = ("join", (ROUND, BACK))
        self.assertIsNone(many_between(row, (0, 0, 0), (1, 0, 0)))
        self.assertIs(are_near(row, (1, 0, 0), (0, 9, 1)), False)
        self.assertIs(are_near(row, (1, 9, 0), (1, 0, 1)), True)
        self.assertEqual(many_between(row, (1, 9, 0), (1, 0, 1)), 18)


class Put(unittest.TestCase):
    def test_in_each_dealing(self):
        self.assertEqual(kept(put_at, "a", (), AB), AB)
        self.assertEqual(kept(put_at, "a", (), ("join", (AB, AB))), ("join", (AB, AB)))
        self.assertEqual(kept(put_at, AB, (0,), AB), ("join", ("a", "b", "b")))
        self.assertEqual(kept(put_at, BACK, (1, 0), MIX), ("join", (BACK, MIX, "b", "a", "b")))
        self.assertEqual(kept(put_at, MIX, (1, 1), "c"), ("join", (MIX, "c", MIX)))

    def test_against_the_document(self):
        rng = random.Random(16)
        for _ in range(400):
            row, other = random_row(rng, 4), random_row(rng, 2)
            place = random_place(rng, row)
            first, second = sides_as_told(row, place)
            self.assertEqual(kept(put_at, row, place, other), laid_as_told(some([first], [other], [second])))

    def test_of_finite_rows(self):
        row = copies(joined(["a", AB]), 3)
        listed = places(row, 0, 0)
        letters = [letter_at(row, place) for place in listed]
        for k, place in enumerate(listed):
            self.assertEqual(put_at(row, place, "z"), ("join", tuple(letters[:k] + ["z"] + letters[k + 1:])))
            self.assertEqual(count(put_at(row, place, AB)), 10)
            for j, other in enumerate(listed):
                self.assertIs(comes_ahead(row, place, other), k < j)
                if k < j:
                    self.assertEqual(many_between(row, place, other), j - k - 1)


if __name__ == "__main__":
    unittest.main()
