"""[7.1], [7.3], [7.4] and [7.5]: rows of levels, what is near and lumped, what is mixed and blended, levels and forms."""

import random
import unittest

from everrows.levels import blended, form, has_near, level_rows, levels, lumped
from everrows.lumps import is_level_letter, letter_text
from everrows.one import unfolded
from everrows.places import places
from everrows.sides import are_near
from tests.onemaking import MIX_A, RICH, again_and_again, join, most_parts, size, some_rows
from tests.rowmaking import kept, random_row

EVER, BACK, AB = ("lump", (), (), ("a",)), ("lump", ("a",), (), ()), ("lump", (), ("a", "b"), ())
ONE_A, ONE_AB = ("mixture", ("a",)), ("mixture", ("a", "b"))


def letters_of_levels(row):
    """The letters of a row of levels, each as often as it stands there."""
    if isinstance(row, str) or row[0] in ("lump", "mixture"):
        return [row]
    return [letter for part in ((row[1],) if row[0] in ("right", "left") else row[1]) for letter in letters_of_levels(part)]


def renamed(row, names):
    if row in names:
        return names[row]
    if row[0] in ("right", "left"):
        return (row[0], renamed(row[1], names))
    return (row[0], tuple(renamed(part, names) for part in row[1]))


def one_of_levels(one, other):
    """Whether two rows of levels are one: whether rows with a letter in the place of each letter of levels have one form."""
    known = sorted(set(map(letter_text, letters_of_levels(one) + letters_of_levels(other))))
    def plain(row):
        return renamed(row, {letter: chr(97 + known.index(letter_text(letter))) for letter in letters_of_levels(row)})
    return form(plain(one)) == form(plain(other))


class Near(unittest.TestCase):
    def test_some(self):
        for row, told in [
                ("a", False), (AB, False), (("join", ("a", "b")), True), (("right", "a"), True), (("left", ONE_A), True),
                (MIX_A, False), (("mix", ("a", AB, EVER)), False), (("mix", (("join", (AB, AB)),)), True),
                (("join", (MIX_A, "a")), False), (("join", (MIX_A, "a", "b")), True), (("join", (("right", MIX_A), MIX_A)), False),
                (("right", ("join", ("a", MIX_A))), False), (("left", ("join", ("a", MIX_A))), False),
                (("right", ("join", ("a", MIX_A, "a"))), True), (("left", ("join", (EVER, MIX_A, "a"))), True),
                (("join", (MIX_A, ("join", ("a", MIX_A)))), False), (("join", (("join", (MIX_A, "a")), ("join", ("a", MIX_A)))), True),
                (("join", (("left", ("mix", (ONE_A,))), AB, ("right", ("mix", (ONE_A,))))), False), (EVER, False)]:
            self.assertIs(kept(has_near, row), told, row)

    def test_against_the_places(self):
        rng, told = random.Random(120), []
        for row in RICH + some_rows(rng, 150, most=9):
            some = places(row, 2, min(most_parts(row), 2))
            near = any(are_near(row, one, other) for one, other in zip(some, some[1:])) or any(
                are_near(row, one, other) for one in some for other in some if one != other)
            self.assertIs(kept(has_near, row), near, row)
            told.append(near)
        self.assertEqual(set(told), {True, False})


class Lumped(unittest.TestCase):
    def test_some(self):
        grown = ("lump", (), (), ("a", "b"))
        first, rest = ("lump", (), ("c", "a"), ("b",)), ("lump", (), ("a",), ("b",))
        for row, told in [
                (("join", ("a", "b")), AB), (("right", "a"), EVER), (("left", "a"), BACK), (("join", ("a", EVER)), ("lump", (), ("a", EVER), ())),
                (("right", ("join", ("a", "b"))), grown), (("join", (("left", "a"), ("right", "a"))), ("lump", ("a",), (), ("a",))),
                (("join", (("right", "a"), ("left", "a"))), ("join", (EVER, BACK))),
                (("right", ("right", "a")), ("right", EVER)), (("left", ("right", "a")), ("left", EVER)), (("right", ("left", "a")), ("right", BACK)),
                (("right", ("join", ("a", ("right", "b")))), ("right", rest)),
                (("join", ("c", ("right", ("join", ("a", ("right", "b")))))), ("join", (first, ("right", rest)))),
                (("mix", (("join", ("a", "b")), "c")), ("mix", (AB, "c"))), (("mix", (("right", "a"), ("join", ("c", MIX_A, "c", "c")))),
                 ("mix", (EVER, ("join", ("c", MIX_A, ("lump", (), ("c", "c"), ())))))),
                (("right", ("join", ("a", MIX_A, "b"))), ("join", ("a", ("right", ("join", (MIX_A, ("lump", (), ("b", "a"), ()))))))),
                (("left", ("join", ("a", MIX_A, "b"))), ("join", (("left", ("join", (("lump", (), ("b", "a"), ()), MIX_A))), "b"))),
                (("left", ("join", (("left", "a"), "b"))), ("left", ("lump", ("a",), ("b",), ()))),
                (("right", ("join", (("left", "a"), "b"))), ("right", ("lump", ("a",), ("b",), ()))),
                (("left", ("join", ("b", ("left", "a")))), ("join", (("left", ("lump", ("a",), ("b",), ())), BACK)))]:
            self.assertTrue(one_of_levels(kept(lumped, row), told), row)

    def test_lumps_and_mixtures_stand_as_one_place(self):
        for row, told in [
                (("join", (AB, AB)), ("lump", (), (AB, AB), ())), (("right", AB), ("lump", (), (), (AB,))),
                (("join", (EVER, "b")), ("lump", (), (EVER, "b"), ())), (("left", ("join", (ONE_A, EVER))), ("lump", (ONE_A, EVER), (), ())),
                (("mix", (("join", (ONE_A, "a")), EVER)), ("mix", (("lump", (), (ONE_A, "a"), ()), EVER))),
                (("mix", (("join", (AB, "a", "b")), AB)), ("mix", (("lump", (), (AB, "a", "b"), ()), AB)))]:
            self.assertTrue(one_of_levels(kept(lumped, row), told), row)

    def test_without_near_places_the_row_itself(self):
        for row in ["a", AB, MIX_A, ("mix", (AB, ("join", (ONE_A, MIX_A)))), ("right", ("join", (MIX_A, "b"))), ("left", MIX_A)]:
            self.assertTrue(one_of_levels(lumped(row), row), row)

    def test_rows_that_are_one_are_lumped_to_one(self):
        rng = random.Random(121)
        for row in RICH + some_rows(rng, 100):
            for other in again_and_again(rng, row, 3, 60):
                self.assertTrue(one_of_levels(lumped(row), lumped(other)), (row, other))
                self.assertTrue(all(map(is_level_letter, letters_of_levels(lumped(other)))))


class Blended(unittest.TestCase):
    def test_some(self):
        for row, told in [
                ("a", "a"), (EVER, EVER), (MIX_A, ONE_A), (("mix", ("b", "a", "b")), ONE_AB), (("right", MIX_A), ONE_A), (("left", MIX_A), ONE_A),
                (join(MIX_A, MIX_A), ONE_A), (join(MIX_A, "a", MIX_A), ONE_A), (join(MIX_A, "b", MIX_A), join(ONE_A, "b", ONE_A)),
                (("right", join(MIX_A, "a")), ONE_A), (("right", join("a", MIX_A)), join("a", ONE_A)), (("left", join("a", MIX_A)), ONE_A),
                (("left", join(MIX_A, "a")), join(ONE_A, "a")), (join("a", MIX_A, "a"), join("a", ONE_A, "a")),
                (("right", join(MIX_A, "b")), ("right", join(ONE_A, "b"))), (("left", join("b", MIX_A)), ("left", join("b", ONE_A))),
                (("right", join(MIX_A, "b", MIX_A)), join(ONE_A, ("right", join("b", ONE_A)))),
                (("right", join("a", MIX_A, "b", MIX_A)), join("a", ONE_A, ("right", join("b", ONE_A)))),
                (("left", join(MIX_A, "b", MIX_A, "a")), join(("left", join(ONE_A, "b")), ONE_A, "a")),
                (("right", join(MIX_A, ("mix", ("b",)))), ("right", join(ONE_A, ("mixture", ("b",))))),
                (("mix", (MIX_A, "a")), ONE_A), (("mix", (MIX_A, "b")), ("mix", (ONE_A, "b"))), (("mix", (MIX_A,)), ONE_A),
                (("mix", (join("a", MIX_A, "a"),)), ONE_A), (("mix", (join("a", MIX_A), join(MIX_A, "a"), "a")), ONE_A),
                (("mix", (join("b", MIX_A),)), ("mix", (join("b", ONE_A),))), (("mix", (("mix", ("a", "b")), MIX_A)), ("mix", (ONE_AB, ONE_A))),
                (("mix", (("mix", ("a", "b")), "a")), ONE_AB), (("mix", (join("b", ("mix", ("a", "b"))), "a")), ONE_AB),
                (("mix", (("mix", ("a", "b")), "c")), ("mix", (ONE_AB, "c"))), (join(MIX_A, ("mix", ("b",))), join(ONE_A, ("mixture", ("b",)))),
                (("mix", (("mix", (("mix", ("a", "b")), "a")), join("a", ("mix", ("b", "a"))))), ONE_AB)]:
            self.assertTrue(one_of_levels(kept(blended, row), told), row)

    def test_lumps_and_mixtures_stand_as_one_place(self):
        for row, told in [
                (("mix", (AB, "a")), ("mixture", ("a", AB))), (("mix", (ONE_A, "a")), ("mixture", (ONE_A, "a"))), (("mix", (ONE_A,)), ("mixture", (ONE_A,))),
                (join(("mix", (AB,)), AB, ("mix", (AB,))), ("mixture", (AB,))), (join(MIX_A, ONE_A, MIX_A), join(ONE_A, ONE_A, ONE_A)),
                (("mix", (ONE_A, MIX_A)), ("mix", (ONE_A, ONE_A))), (("right", join(("mix", (EVER, AB)), EVER)), ("mixture", (EVER, AB)))]:
            self.assertTrue(one_of_levels(kept(blended, row), told), row)

    def test_rows_that_are_one_are_blended_to_one(self):
        rng, many = random.Random(122), 0
        for row in RICH + some_rows(rng, 300, letters="abc"):
            for other in again_and_again(rng, row, 3, 60):
                one = row
                while has_near(one):
                    one, other = lumped(one), lumped(other)
                many += 1
                self.assertTrue(one_of_levels(blended(one), blended(other)), (row, other))
                self.assertTrue(all(map(is_level_letter, letters_of_levels(blended(other)))))
        self.assertGreater(many, 500)


class Levels(unittest.TestCase):
    def test_each_level_comes_of_the_one_ahead(self):
        rng, most = random.Random(123), 0
        for row in RICH + some_rows(rng, 80, 4):
            rows = kept(level_rows, row)
            self.assertEqual(rows[0], row)
            self.assertIsInstance(rows, list)
            for one, other in zip(rows, rows[1:]):
                self.assertTrue(len(letters_of_levels(one)) > 1 or one != letters_of_levels(one)[0])
                self.assertTrue(one_of_levels(lumped(one) if has_near(one) else blended(one), other))
            self.assertIs(is_level_letter(rows[-1]), True)
            told = kept(levels, row)
            self.assertEqual([[letter_text(letter) for letter in letters] for letters in told],
                             [sorted(set(map(letter_text, letters_of_levels(one)))) for one in rows])
            self.assertEqual([kept(form, row)], told[-1])
            self.assertEqual(form(row), rows[-1])
            most = max(most, len(rows))
        self.assertGreater(most, 4)

    def test_some_forms(self):
        for row, text in [
                ("a", "a"), (("join", ("a", "b")), "{a b}"), (("right", ("right", "a")), "{({(a)>})>}"), (("mix", ("b", "a")), "[a, b]"),
                (("right", ("left", "a")), "{({<(a)})>}"), (("mix", (("mix", ("a",)), ("mix", ("b",)))), "[[a], [b]]"),
                (("mix", (("join", ("a", "b")), "b")), "[b, {a b}]"), (("join", (MIX_A, "a", "b", MIX_A)), "{[a] {a b} [a]}"),
                (("right", ("join", (MIX_A, "b"))), "{([a] b)>}"), (("join", ("b", ("right", ("join", ("a", ("right", "b")))))), "{{b a (b)>} ({a (b)>})>}"),
                (("join", (("left", ("join", ("b", "a"))), ("right", ("join", ("b", "a"))))), "{<(a b) (a b)>}"),
                (("mix", (("join", ("b", MIX_A)), MIX_A)), "[[a], {b [a]}]"), (("join", ("a", ("mix", ("a", "b")), "c")), "{a [a, b] c}"),
                (("right", ("mix", (("join", ("a", ("left", "b"))), ("right", "b")))), "[{(b)>}, {a {<(b)}}]"),
                (("join", (("right", "a"), ("right", "a"))), "{{(a)>} {(a)>}}"), (("join", (("left", "a"), "b", ("right", "c"))), "{<(a) b (c)>}")]:
            self.assertEqual(letter_text(form(row)), text, row)
        self.assertEqual(levels(("join", (("right", "a"), MIX_A))), [["a"], ["a", EVER], [ONE_A, EVER], [("lump", (), (EVER, ONE_A), ())]])

    def test_rows_that_are_one_have_one_form_and_the_same_levels(self):
        rng = random.Random(124)
        for row in RICH + some_rows(rng, 150, 4):
            told = levels(row)
            for other in again_and_again(rng, row):
                self.assertEqual(levels(other), told, (row, other))

    def test_forms_unfolded_are_formed_again(self):
        rng = random.Random(125)
        for row in RICH + some_rows(rng, 150, 4, "abc"):
            self.assertEqual(form(kept(unfolded, form(row))), form(row))
            for one in level_rows(row)[:3]:
                self.assertEqual(form(kept(unfolded, one)), form(row))

    def test_the_lists_are_new_ones(self):
        row = ("mix", (("join", ("a", "b")), "c"))
        told, rows = levels(row), level_rows(row)
        self.assertEqual([len(told), len(rows)], [3, 3])
        for letters in told:
            letters.clear()
        told.clear()
        rows.clear()
        self.assertEqual([list(map(len, levels(row))), len(level_rows(row))], [[3, 2, 1], 3])


class Greatest(unittest.TestCase):
    def test_rows_of_size_twenty_four_and_depth_six(self):
        row = "a"
        for _ in range(3):
            row = ("right", join("b", "a", "c", "b", "a", row))
        self.assertEqual([size(row), len(levels(row))], [22, 4])
        self.assertEqual(letter_text(form(row)), letter_text(form(join(*"bacba", ("right", join(row[1][1][5], *"bacba"))))))
        rng = random.Random(126)
        for _ in range(60):
            row = random_row(rng, 6, "abcde")
            while not 18 <= size(row) <= 24:
                row = random_row(rng, 6, "abcde")
            for part in (row, join(*[row] * 10), join(row, *some_rows(rng, 9, 6, "abcde"))):
                self.assertEqual(form(unfolded(form(part))), form(part))

    def test_rows_of_levels_of_two_hundred(self):
        rng = random.Random(127)
        wide = ("lump", (), tuple(rng.choice("ab") for _ in range(980)) + ("c",), ())
        word = tuple(rng.choice(("a", "b", AB, EVER, ONE_A, wide)) for _ in range(96)) + ("c",)
        for row in [join(*word), ("right", join(*word)), join(("left", join(*word)), ("right", join(*word))), join(("left", join(*word)), *word)]:
            self.assertIs(has_near(row), True)
            self.assertIs(is_level_letter(lumped(row)), True)
        deep = join(*word[:38])
        for k in range(4):
            deep = ("right", join(*word[k:k + 38], deep))
        self.assertLess(size(join(*map(letter_text, letters_of_levels(lumped(deep))))), 700)
        dense = ("mix", tuple(word))
        for _ in range(6):
            dense = ("mix", (join(wide, dense), "c"))
        self.assertIs(has_near(dense), False)
        self.assertIsInstance(blended(dense), tuple)
        letter = "a"
        for k in range(16):
            letter = ("mixture", (letter,)) if k % 2 else ("lump", (), (letter, "b"), ())
        self.assertEqual(lumped(join(letter, letter)), ("lump", (), (letter, letter), ()))
        self.assertEqual(blended(("mix", (letter, "a"))), ("mixture", (letter, "a")))


if __name__ == "__main__":
    unittest.main()
