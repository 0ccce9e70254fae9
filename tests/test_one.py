"""[7.1], [7.6], [7.7], [7.8] and [1.2]: unfolded letters, forms, which rows are one, and the first level that is unlike."""

import random
import unittest
from itertools import product

from everrows.cuts import ahead_pairs, cuts, first_letter, last_letter, next_pairs, sorts_of_cuts
from everrows.levels import form, level_rows, levels
from everrows.lumps import is_level_letter, letter_text, turned_letter
from everrows.one import are_one, compare, is_form, judge_compare, unfolded
from everrows.pieces import beginnings, ends, pieces
from everrows.places import letter_at
from everrows.readers import answer
from everrows.rows import is_row, row_letters
from everrows.sides import ahead, behind, put_at
from tests.lumpmaking import level_letter_as_told, random_level_letter, text_as_told
from tests.onemaking import MIX_A, RICH, again_and_again, join, places_in_finite, seen, size, some_rows
from tests.rowmaking import ODD_VALUES, kept, nearly, random_place
from tests.tablemaking import LAWFUL, WIDE, random_reader

A_B, EVER, BACK, AB = ("lump", (), ("a",), ("b",)), ("lump", (), (), ("a",)), ("lump", ("a",), (), ()), ("lump", (), ("a", "b"), ())
ONE_A = ("mixture", ("a",))


def unfolded_as_told(thing):
    """[7.1], straight from the document."""
    if isinstance(thing, str):
        return thing
    if thing[0] == "lump":
        left, middle, right = ([unfolded_as_told(letter) for letter in word] for word in thing[1:])
        return join(*([("left", join(*left))] if left else []), *middle, *([("right", join(*right))] if right else []))
    if thing[0] == "mixture":
        return ("mix", tuple(map(unfolded_as_told, thing[1])))
    return (thing[0], unfolded_as_told(thing[1]) if thing[0] in ("right", "left") else tuple(map(unfolded_as_told, thing[1])))


def compare_as_told(one, other):
    """[7.6], straight from the document, of what levels tells."""
    mine, others = levels(one), levels(other)
    for k in range(max(len(mine), len(others))):
        here = mine[k] if k < len(mine) else []
        there = others[k] if k < len(others) else []
        unlike = [letter for letter in here if letter not in there] + [letter for letter in there if letter not in here]
        if unlike:
            return ("differ", k, min(unlike, key=text_as_told))
    return ("one", mine[-1][0])


def judged_as_told(one, other, value):
    """judge_compare, straight from the document."""
    right = compare_as_told(one, other)
    if type(value) is not tuple or len(value) not in (2, 3) or value[0] != ("one" if len(value) == 2 else "differ"):
        return ("form",)
    if not level_letter_as_told(value[-1]) or (len(value) == 3 and (type(value[1]) is not int or value[1] < 0)):
        return ("form",)
    if value[0] != right[0]:
        return ("word",)
    if len(value) == 3 and value[1] != right[1]:
        return ("level", right[1])
    return None if value[-1] == right[-1] else ("letter", right[-1])


# Pairs that are not one, and the number of the first level that tells so.
FAR = ("right", ("left", join(MIX_A, "b")))
UNLIKE = [
    (join(FAR, FAR), FAR, 4), (join(FAR, "b", FAR), join(FAR, FAR), 2), (join(("left", ("right", join(MIX_A, "b"))), MIX_A), ("left", ("right", join(MIX_A, "b"))), 2),
    ("a", "b", 0), (("right", "a"), ("right", "b"), 0), (MIX_A, "b", 0), (("mix", ("a", "b")), MIX_A, 0),
    ("a", ("right", "a"), 1), ("a", MIX_A, 1), (("right", "a"), ("left", "a"), 1), (join("a", "b"), join("b", "a"), 1),
    (join("a", "a"), join("a", "a", "a"), 1), (MIX_A, ("right", "a"), 1), (MIX_A, join(MIX_A, "a"), 1),
    (join("a", MIX_A), join(MIX_A, "a"), 2), (("mix", ("a", "b")), ("right", join("a", "b")), 1),
    (("right", ("right", "a")), ("right", "a"), 2), (("right", ("right", "a")), ("left", ("right", "a")), 2),
    (join(("right", "a"), ("right", "a")), ("right", ("right", "a")), 2), (("mix", (("right", "a"),)), ("right", ("right", "a")), 2),
    (join(("left", "a"), ("right", "a")), join(("right", "a"), ("left", "a")), 1), (("right", ("left", "a")), ("left", ("left", "a")), 2),
    (("right", join(MIX_A, "b")), ("left", join(MIX_A, "b")), 2), (("mix", (MIX_A, "b")), ("mix", (("mix", ("a", "b")),)), 1),
    (("mix", (MIX_A, ("mix", ("b",)))), ("mix", (join(MIX_A, ("mix", ("b",))),)), 2),
    (("right", ("right", ("right", "a"))), ("right", ("right", "a")), 3), (("right", join(MIX_A, "b", "b")), ("right", join(MIX_A, "b", "b", "b")), 1),
    (("right", ("right", ("right", ("right", "a")))), ("left", ("right", ("right", ("right", "a")))), 4),
    (("mix", (("mix", (("mix", ("a",)), "b")), "b")), ("mix", (("mix", ("a",)), "b")), None),
    (join("b", ("right", join("a", ("right", join("a", ("right", "b")))))), join(("right", join("a", ("right", join("a", ("right", "b")))))), 1),
]


class Unfolded(unittest.TestCase):
    def test_some(self):
        for thing, row in [
                ("a", "a"), (AB, join("a", "b")), (EVER, ("right", "a")), (BACK, ("left", "a")), (A_B, join("a", ("right", "b"))),
                (("lump", ("a", "b"), (), ("c",)), join(("left", join("a", "b")), ("right", "c"))), (ONE_A, MIX_A),
                (("mixture", (AB, EVER)), ("mix", (join("a", "b"), ("right", "a")))), (("right", EVER), ("right", ("right", "a"))),
                (("mix", ("c", join(AB, ONE_A))), ("mix", ("c", join("a", "b", MIX_A)))), (("left", join("a", "b")), ("left", join("a", "b")))]:
            self.assertIs(is_row(kept(unfolded, thing)), True)
            self.assertTrue(are_one(unfolded(thing), row), thing)

    def test_against_the_document(self):
        rng = random.Random(130)
        for _ in range(300):
            letter = random_level_letter(rng, 3)
            self.assertIs(is_row(kept(unfolded, letter)), True)
            self.assertTrue(are_one(unfolded(letter), unfolded_as_told(letter)), letter)
            for row in (("right", letter), join(letter, "a", letter), ("mix", (letter, "b")), ("left", join("c", ("mix", (letter,))))):
                self.assertTrue(are_one(kept(unfolded, row), unfolded_as_told(row)))


class AreOne(unittest.TestCase):
    def test_the_examples_of_the_document(self):
        x = ("mix", (("right", "a"), "b"))
        for one, other in [
                (join(join("a", "b"), join("c", join("a", "a"))), join("a", "b", "c", "a", "a")), (join(x, ("right", x)), ("right", x)),
                (join(("right", MIX_A), MIX_A, ("right", MIX_A)), ("right", MIX_A)),
                (("mix", ("a", x, "c")), ("mix", ("c", x, "a", "a"))), (("mix", (MIX_A, MIX_A)), MIX_A), (("mix", (("mix", (x,)), ("mix", (x,)))), ("mix", (x,)))]:
            self.assertIs(kept(are_one, one, other), True, (one, other))
        for row in RICH:
            self.assertIs(are_one(row, row), True)
            self.assertIs(are_one(join(row, ("right", row)), ("right", row)), True)
            self.assertIs(are_one(join(("left", row), row), ("left", row)), True)
            self.assertIs(are_one(("mix", (("mix", (row,)), ("mix", (row,)))), ("mix", (row,))), True)

    def test_told_otherwise_again_and_again(self):
        rng = random.Random(131)
        for row in RICH + some_rows(rng, 150, 4, "abc"):
            for other in again_and_again(rng, row):
                self.assertIs(are_one(row, other), True, (row, other))
                self.assertEqual(compare(row, other), ("one", form(row)))

    def test_unlike_ones(self):
        for one, other, k in UNLIKE:
            self.assertIs(kept(are_one, one, other), k is None, (one, other))
            if k is not None:
                self.assertEqual([compare(one, other)[:2], compare(other, one)[:2]], [("differ", k)] * 2, (one, other))
                self.assertFalse(are_one(("right", join(one, "c", ("left", "c"))), ("right", join(other, "c", ("left", "c")))))
                self.assertFalse(are_one(("mix", (join("c", one, "d"),)), ("mix", (join("c", other, "d"),))))

    def test_finite_rows_by_their_places(self):
        rng = random.Random(132)
        rows = some_rows(rng, 60, 4, "ab", 12, ("join",))
        for one, other in product(rows, rows):
            self.assertIs(are_one(one, other), places_in_finite(one) == places_in_finite(other))

    def test_rows_that_are_seen_unlike_are_not_one(self):
        rng, unlike = random.Random(133), 0
        rows = some_rows(rng, 130, 3, "ab", 7) + [row for row in RICH if size(row) < 7]
        for one, other in product(rows, rows):
            if seen(one, 2) != seen(other, 2):
                unlike += 1
                self.assertIs(are_one(one, other), False, (one, other))
        self.assertGreater(unlike, 5000)
        for row in rows:
            for other in again_and_again(rng, row, 2, 12):
                self.assertEqual(seen(row, 2), seen(other, 2), (row, other))

    def test_rows_with_unlike_answers_are_not_one(self):
        rng, unlike = random.Random(134), 0
        rows = [row for row in RICH if "c" not in row_letters(row)] + some_rows(rng, 60)
        for table in LAWFUL + WIDE:
            reader = random_reader(rng, "ab", [table])
            answers = [answer(reader, row) for row in rows]
            for one, other in zip(range(len(rows)), rng.sample(range(len(rows)), len(rows))):
                if answers[one] != answers[other]:
                    unlike += 1
                    self.assertIs(are_one(rows[one], rows[other]), False)
            for row in rows[:40]:
                for other in again_and_again(rng, row, 2):
                    self.assertEqual(answer(reader, other), answer(reader, row))
        self.assertGreater(unlike, 200)

    def test_rows_that_are_one_are_told_the_same(self):
        rng = random.Random(135)
        for row in RICH + some_rows(rng, 60, 3, "abc"):
            reader = random_reader(rng, "abc")
            def all_told(row):
                return [first_letter(row), last_letter(row), sorts_of_cuts(row), next_pairs(row), ahead_pairs(row), cuts(reader, row),
                        beginnings(reader, row), ends(reader, row), pieces(reader, row), row_letters(row)]
            told = all_told(row)
            for other in again_and_again(rng, row, 3, 60):
                self.assertEqual(all_told(other), told, (row, other))

    def test_what_is_ahead_the_place_and_what_is_behind(self):
        rng = random.Random(136)
        for row in RICH + some_rows(rng, 100, 4, "abc"):
            for _ in range(3):
                place = random_place(rng, row)
                letter = letter_at(row, place)
                self.assertIs(are_one(join(ahead(row, place), letter, behind(row, place)), row), True, (row, place))
                self.assertIs(are_one(put_at(row, place, letter), row), True)
                self.assertIs(are_one(put_at(row, place, "z"), row), False)

    def test_joins_of_ten_of_the_greatest_size(self):
        row = "b"
        for k in range(3):
            row = (("right", "left", "right")[k], join("a", "b", row, "b", ("mix", ("a",))))
        self.assertLessEqual(size(row), 24)
        self.assertIs(are_one(join(*[row] * 10), join(row, join(*[row] * 9))), True)
        self.assertIs(are_one(join(*[row] * 10), join(*[row] * 9)), False)


class Compare(unittest.TestCase):
    def test_against_the_document(self):
        rng = random.Random(137)
        rows = RICH + some_rows(rng, 30, 3, "abc") + [row for pair in UNLIKE for row in pair[:2]]
        found = set()
        for one, other in product(rows, rows):
            told = kept(compare, one, other)
            self.assertEqual(told, compare_as_told(one, other), (one, other))
            self.assertIs(are_one(one, other), told[0] == "one")
            self.assertIs(form(one) == form(other), told[0] == "one")
            found.add(told[:-1])
        self.assertEqual(found, {("one",), ("differ", 0), ("differ", 1), ("differ", 2), ("differ", 3), ("differ", 4)})

    def test_the_least_letter_by_text(self):
        for one, other, told in [
                (join("a", "c"), join("b", "c"), ("differ", 0, "a")), (join("b", "c"), join("c", "a"), ("differ", 0, "a")),
                (("right", "a"), ("left", "a"), ("differ", 1, EVER)), (("mix", (join("a", "b"), "a")), ("mix", (join("a", "b"), ("right", "a"))), ("differ", 1, "a")),
                (("mix", ("a", "b")), join(("mix", ("a",)), "b"), ("differ", 1, ("mixture", ("a", "b")))), (MIX_A, "a", ("differ", 1, ONE_A))]:
            self.assertEqual([compare(one, other), compare(other, one)], [told, told])

    def test_judged(self):
        rng = random.Random(138)
        rows = ["a", "b", MIX_A, ("right", "a"), ("left", "a"), join("a", "b"), join(MIX_A, MIX_A), ("right", ("right", "a")),
                ("right", join("a", "a"))]
        found = set()
        for one, other in product(rows, rows):
            right = compare(one, other)
            self.assertIs(judge_compare(one, other, right), None)
            values = list(nearly(right)) + list(ODD_VALUES) + [list(right), right + ("a",), right[1:], right[:-1], right + right]
            values += [(word, k, letter) for word in ("differ", "one") for k in (0, 1, 2, 3, True, False, -1, "1", 10 ** 39)
                       for letter in ("a", EVER, ONE_A, "A", (), ("lump", (), ("a",), ()))]
            values += [(word, letter) for word in ("one", "differ") for letter in (right[-1], "a", EVER, ONE_A, BACK, None, [right[-1]])]
            for value in rng.sample(values, min(len(values), 220)):
                told = kept(judge_compare, one, other, value)
                self.assertEqual(told, judged_as_told(one, other, value), (one, other, value))
                found.add(told[0] if told else None)
        self.assertEqual(found, {None, "form", "word", "level", "letter"})

    def test_faults_in_their_order(self):
        ever, back = ("right", "a"), ("left", "a")
        for one, other, value, told in [
                (ever, back, ("one", "A"), ("form",)), (ever, back, ("one", "a"), ("word",)), (ever, back, ("differ", 0, "b"), ("level", 1)),
                (ever, back, ("differ", 1, "a"), ("letter", EVER)), (ever, back, ("differ", 1, EVER), None), (ever, back, ("differ", True, EVER), ("form",)),
                (ever, back, ("differ", 1, list(EVER)), ("form",)), (ever, ever, ("differ", 0, "a"), ("word",)), (ever, ever, ("one", BACK), ("letter", EVER)),
                (ever, ever, ("one", EVER), None), (ever, ever, ("one", ("lump", (), ("a",), ("a",))), ("form",)), (ever, ever, ["one", EVER], ("form",)),
                (ever, ever, ("one", 1, EVER), ("form",)), (ever, back, ("differ", EVER), ("form",)), ("a", MIX_A, ("differ", 1, ONE_A), None),
                ("a", "b", ("differ", False, "a"), ("form",)), ("a", "b", ("differ", 0, "b"), ("letter", "a")), ("a", "b", ("differ", 0, "a"), None)]:
            self.assertEqual(kept(judge_compare, one, other, value), told, value)


class Forms(unittest.TestCase):
    def test_forms(self):
        rng = random.Random(139)
        for row in RICH + some_rows(rng, 150, 4, "abc"):
            self.assertIs(kept(is_form, form(row)), True)
            for letters in levels(row)[1:]:
                for letter in letters:
                    self.assertIs(is_level_letter(letter), True)

    def test_letters_of_levels_that_are_none(self):
        for letter in [
                ("lump", (), ("a", ("lump", (), ("b", "c"), ())), ()), ("mixture", (ONE_A, "a")), ("mixture", (ONE_A,)),
                ("lump", (), (AB, AB), ()), ("lump", (), ("a", EVER), ()), ("lump", (), (BACK, EVER), ()), ("lump", (), (ONE_A, ONE_A), ()),
                ("lump", (), (ONE_A, "a", ONE_A), ()), ("lump", (), (), (ONE_A,)), ("lump", (), (BACK, "a"), ()), ("lump", (), (), (AB,)),
                ("lump", (), (), (ONE_A, "a")), ("mixture", (("lump", (), (ONE_A, "a"), ()),)), ("mixture", ("a", ("lump", (), (ONE_A, "a"), ()))),
                ("lump", (EVER, "a"), (), ()), ("lump", (), (ONE_A, "a", "a"), ())]:
            self.assertIs(is_level_letter(letter), True, letter)
            self.assertIs(kept(is_form, letter), False, letter)
            for outer in (("mixture", (letter,)), ("lump", (), (letter, ("lump", (), ("z", "z"), ())), ())):
                self.assertIs(is_form(outer), False, outer)

    def test_letters_of_levels_that_are_forms(self):
        for letter in ["a", "z", AB, EVER, BACK, A_B, ONE_A, ("mixture", ("a", AB)), ("lump", (), (EVER, EVER), ()), ("lump", (), (), (EVER,)),
                       ("lump", (), (ONE_A, "b", ONE_A), ()), ("mixture", (ONE_A, "b")), ("lump", (), ("a", ONE_A), ()), ("lump", (), (BACK, ONE_A), ()),
                       ("lump", (), (("mixture", (EVER,)), EVER, ("mixture", (AB,))), ())]:
            self.assertIs(kept(is_form, letter), True, letter)
            self.assertEqual(form(unfolded(letter)), letter)

    def test_exactly_if_it_is_the_form_of_its_unfolded_row(self):
        rng, told = random.Random(140), []
        for _ in range(1500):
            letter = random_level_letter(rng, 3)
            told.append(form(unfolded_as_told(letter)) == letter)
            self.assertIs(is_form(letter), told[-1], letter)
            for row in (("right", letter), ("mix", (letter, "a"))):
                self.assertEqual(form(unfolded(row)), form(unfolded_as_told(row)))
        self.assertTrue(300 < sum(told) < 1200, sum(told))

    def test_any_values(self):
        for value in ODD_VALUES:
            self.assertIs(kept(is_form, value), isinstance(value, str) and level_letter_as_told(value), value)
        rng = random.Random(141)
        for row in RICH:
            for value in nearly(form(row)):
                self.assertIs(kept(is_form, value), level_letter_as_told(value) and form(unfolded_as_told(value)) == value, value)
        for value in (("lump", (), (), ()), ("lump", (), ("b",), ("a", "b")), ("mixture", ("b", "a")), ("lump", ("b", "a"), (), ("b", "a"))):
            self.assertIs(is_form(value), False)

    def test_many_within_one_another(self):
        letter, round_letter = "a", "a"
        for k in range(14):
            letter = ("lump", (), ("ab"[k % 2],), (letter,)) if letter != "ab"[k % 2] else ("lump", (), ("b",), ("a",))
            round_letter = ("lump", (), (), (round_letter,)) if k % 2 else ("lump", (round_letter,), (), ())
        self.assertEqual([is_level_letter(letter), is_form(letter)], [True, False])
        self.assertEqual([is_level_letter(round_letter), is_form(round_letter)], [True, True])
        wide = ("lump", tuple("ab" * 300) + ("c",), tuple("abc" * 300), tuple("abb" * 150) + ("c",))
        self.assertIs(is_form(wide), level_letter_as_told(wide))

    def test_turned_about_a_form_is_a_form(self):
        rng = random.Random(142)
        for row in RICH + some_rows(rng, 100, 4, "abc"):
            self.assertIs(is_form(turned_letter(form(row))), True)
        for row in RICH[:12]:
            self.assertEqual([letter_text(letter) for letter in levels(row)[-1]], [letter_text(form(row))])
            self.assertEqual(level_rows(row)[-1], form(row))


if __name__ == "__main__":
    unittest.main()
