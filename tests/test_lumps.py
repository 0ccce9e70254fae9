"""[7.1], [7.2], [7.7] and [7.8] of letters of levels: texts, roots, lumps in one form, turned about, width and depth."""

import random
import unittest
from itertools import product

from everrows.lumps import depth, is_level_letter, letter_text, lump_of, root, turned_letter, width
from tests.lumpmaking import (in_one_form, is_root_as_told, level_letter_as_told, random_level_letter, random_word, tell_the_same,
                              text_as_told, told_otherwise)
from tests.rowmaking import ODD_VALUES, kept, nearly

A_B, EVER = ("lump", (), ("a",), ("b",)), ("lump", (), (), ("a",))
MIXED = ("mixture", ("a",))
DEEP = ("lump", (A_B, "a"), (MIXED, "b"), ("c",))


def some_letters(seed, many=150, deep=3):
    rng = random.Random(seed)
    return ["a", "z", A_B, EVER, MIXED, DEEP] + [random_level_letter(rng, deep, "abc") for _ in range(many)]


def parts_of(told):
    """The three words of what lump_of returned."""
    return ((), (told,), ()) if isinstance(told, str) or told[0] == "mixture" else told[1:]


class Texts(unittest.TestCase):
    def test_each_kind(self):
        for letter, text in [
                ("q", "q"), (A_B, "{a (b)>}"), (EVER, "{(a)>}"), (("lump", ("a", "b"), (), ()), "{<(a b)}"), (MIXED, "[a]"),
                (("lump", (), ("a", "b"), ()), "{a b}"), (("lump", ("a", "b"), ("c",), ()), "{<(a b) c}"),
                (("lump", ("a",), ("b", "c"), ("d", "e")), "{<(a) b c (d e)>}"), (("lump", ("a",), (), ("b",)), "{<(a) (b)>}"),
                (("mixture", ("a", A_B)), "[a, {a (b)>}]"), (DEEP, "{<({a (b)>} a) [a] b (c)>}"),
                (("lump", (), ("a", ("mixture", ("a", "b"))), ("b",)), "{a [a, b] (b)>}"), (("mixture", (MIXED, "a")), "[[a], a]")]:
            self.assertEqual(kept(letter_text, letter), text)

    def test_against_the_document(self):
        seen = {}
        for letter in some_letters(110, 600):
            text = kept(letter_text, letter)
            self.assertEqual(text, text_as_told(letter))
            self.assertEqual(seen.setdefault(text, letter), letter)

    def test_width_and_depth(self):
        self.assertEqual([(kept(width, letter), kept(depth, letter)) for letter in ("a", A_B, MIXED, DEEP, ("mixture", (MIXED, "a")))],
                         [(1, 0), (2, 1), (1, 1), (6, 2), (2, 2)])
        for letter in some_letters(111, 300):
            text, within, deepest = text_as_told(letter), 0, 0
            for sign in text:
                within += (sign in "{[") - (sign in "}]")
                deepest = max(deepest, within)
            self.assertEqual(kept(width, letter), sum("a" <= sign <= "z" for sign in text))
            self.assertEqual(kept(depth, letter), deepest)

    def test_sixteen_within_one_another(self):
        letter = "a"
        for k in range(16):
            letter = ("mixture", (letter,)) if k % 2 else ("lump", (), ("a",), (letter,)) if k else A_B
        self.assertEqual([depth(letter), width(letter), is_level_letter(letter)], [16, 9, True])
        self.assertEqual(letter_text(letter).count("["), 8)
        self.assertEqual([depth(turned_letter(letter)), turned_letter(turned_letter(letter)) == letter], [16, True])


class Roots(unittest.TestCase):
    def test_each_short_word(self):
        for many in range(1, 9):
            for word in product("ab", repeat=many):
                told = kept(root, word)
                self.assertIs(is_root_as_told(told), True)
                self.assertEqual(told * (len(word) // len(told)), word)

    def test_of_letters_of_levels_and_of_twenty(self):
        self.assertEqual(root((A_B, "a", A_B, "a")), (A_B, "a"))
        self.assertEqual(root((A_B, MIXED, A_B)), (A_B, MIXED, A_B))
        self.assertEqual([root(("a",) * 20), root(("a", "b") * 10), root(("a",) * 19 + ("b",)), root(("a",))],
                         [("a",), ("a", "b"), ("a",) * 19 + ("b",), ("a",)])
        self.assertEqual(root(tuple("aabab" * 4)), tuple("aabab"))


class Lumps(unittest.TestCase):
    def test_each_of_the_four_kinds(self):
        for left, middle, right, told in [
                ("", "a", "", "a"), ("", "ab", "", ("", "ab", "")), ("", "abab", "", ("", "abab", "")), ("", "aa", "", ("", "aa", "")),
                ("", "", "a", ("", "", "a")), ("", "", "aa", ("", "", "a")), ("", "a", "a", ("", "", "a")),
                ("", "abb", "ab", ("", "ab", "ba")), ("", "ab", "ab", ("", "", "ab")), ("", "bab", "ab", ("", "", "ba")),
                ("", "cab", "abab", ("", "c", "ab")), ("", "cb", "ab", ("", "c", "ba")),
                ("a", "", "", ("a", "", "")), ("abab", "", "", ("ab", "", "")), ("ba", "bac", "", ("ba", "c", "")),
                ("ab", "ab", "", ("ab", "", "")), ("ab", "aca", "", ("ba", "ca", "")),
                ("a", "", "a", ("a", "", "a")), ("a", "aaa", "aa", ("a", "", "a")), ("ba", "b", "ab", ("ab", "", "ab")),
                ("ba", "", "ba", ("ab", "", "ab")), ("a", "", "ab", ("a", "", "ab")), ("ab", "", "b", ("ba", "", "b")),
                ("ab", "", "cb", ("ba", "", "bc")), ("ab", "bb", "b", ("ba", "", "b")), ("a", "ab", "b", ("a", "", "b")),
                ("a", "ba", "b", ("a", "ba", "b")), ("ab", "abc", "dc", ("ab", "", "cd")), ("ab", "", "ba", ("ab", "", "ba")),
                ("cab", "", "abcab", ("abc", "", "abcab")), ("ab", "b", "ab", ("ab", "", "ba")),
                ("bab", "", "ab", ("bab", "", "ba"))]:
            if not isinstance(told, str):
                told = ("lump", *map(tuple, told))
            self.assertEqual(kept(lump_of, tuple(left), tuple(middle), tuple(right)), told, (left, middle, right))

    def test_the_turn_whose_text_is_least(self):
        for word, told in [(("b", "a"), ("a", "b")), (("b", "a", "a"), ("a", "a", "b")), (("a", A_B), ("a", A_B)),
                           ((A_B, "a"), ("a", A_B)), (("a", MIXED), (MIXED, "a")), ((A_B, MIXED), (MIXED, A_B)),
                           (("c", "a", "b", "a"), ("a", "b", "a", "c"))]:
            for k in range(len(word)):
                turn = word[k:] + word[:k]
                self.assertEqual(lump_of(turn, (), turn), ("lump", told, (), told))
                self.assertEqual(lump_of(turn * 2, turn[:k], turn[k:] + turn[:k]), ("lump", told, (), told))

    def test_all_short_ones_are_in_one_form_and_tell_the_same(self):
        words = [tuple(word) for many in range(4) for word in product("ab", repeat=many)]
        rng = random.Random(112)
        for told in rng.sample(list(product(words, repeat=3))[1:], 1500):
            lump = parts_of(kept(lump_of, *told))
            self.assertTrue(in_one_form(*lump) or (lump[0], lump[2], len(lump[1])) == ((), (), 1), told)
            self.assertTrue(tell_the_same(told, lump), told)

    def test_told_again_and_again_otherwise(self):
        rng = random.Random(113)
        for _ in range(800):
            told = tuple(random_word(rng, rng.choice((0, 0, 2)), 0, 3) for _ in range(3))
            if any(told):
                other = told
                for _ in range(4):
                    other = told_otherwise(rng, other)
                    if max(map(len, other)) <= 20:
                        self.assertEqual(lump_of(*other), lump_of(*told), (told, other))

    def test_equal_exactly_if_they_tell_the_same(self):
        rng, same, kinds = random.Random(114), 0, set()
        for _ in range(3000):
            one, other = ([tuple(rng.choice("ab") for _ in range(rng.choice((0, 1, 1, 2, 3)))) for _ in range(3)] for _ in range(2))
            if rng.random() < 0.6:
                other = [one[0], other[1], one[2]]
            if rng.random() < 0.3:
                other[0], one[0] = (), ()
            if any(one) and any(other):
                alike = tell_the_same(one, other)
                same += alike
                kinds.add((alike, one[0] == (), one[2] == ()))
                self.assertIs(lump_of(*one) == lump_of(*other), alike, (one, other))
        self.assertGreater(same, 100)
        self.assertEqual(len(kinds), 8)

    def test_letters_stay_as_they_are(self):
        near = ("lump", (), ("a", "b"), ())
        self.assertEqual(lump_of((), (near, near), ()), ("lump", (), (near, near), ()))
        self.assertEqual(lump_of((), ("a", near), ("b",)), ("lump", (), ("a", near), ("b",)))
        self.assertEqual(lump_of((), (MIXED,), ()), MIXED)
        self.assertEqual(lump_of((near,), (), ()), ("lump", (near,), (), ()))
        self.assertEqual(lump_of((EVER,), (EVER,), (EVER,)), ("lump", (EVER,), (), (EVER,)))

    def test_of_twenty_letters(self):
        left, right = tuple("ab" * 10), tuple("ba" * 10)
        self.assertEqual(lump_of(left, left, left), ("lump", ("a", "b"), (), ("a", "b")))
        self.assertEqual(lump_of(left, ("b",) * 20, right), ("lump", ("a", "b"), ("b",) * 20, ("b", "a")))
        self.assertEqual(lump_of(left, ("a",) * 20, right), ("lump", ("b", "a"), ("a",) * 18, ("a", "b")))
        long, longer = tuple("a" * 18 + "b"), tuple("a" * 19 + "b")
        told = ("lump", long, (), long + ("a",))
        self.assertEqual(lump_of(long, (), longer), told)
        self.assertTrue(tell_the_same(parts_of(told), (long, (), longer), 90, 45))

class AreLevelLetters(unittest.TestCase):
    def test_level_letters(self):
        for letter in some_letters(115, 400):
            self.assertIs(level_letter_as_told(letter), True)
            self.assertIs(kept(is_level_letter, letter), True, letter)

    def test_what_is_none(self):
        for value in [
                ("lump", (), (), ()), ("lump", (), ("a",), ()), ("lump", (), (A_B,), ()), ("lump", (), (), ("a", "a")),
                ("lump", ("a", "b", "a", "b"), (), ()), ("lump", (), ("a", "b"), ("b",)), ("lump", (), ("b",), ("a", "b")),
                ("lump", ("a",), ("a", "b"), ()), ("lump", ("a",), (), ("b", "a")), ("lump", ("a", "b"), (), ("b",)),
                ("lump", ("b", "a"), (), ("b", "a")), ("lump", ("a", "b"), ("a",), ("b", "a")), ("lump", ("a",), ("a",), ("a",)),
                ("lump", (), ("A", "b"), ()), ("lump", (), ("ab", "b"), ()), ("lump", (), ["a", "b"], ()), ("lump", [], ("a", "b"), ()),
                ("lump", (), ("a", "b"), []), ["lump", (), ("a", "b"), ()], ("lump", (), ("a", "b")), ("lump", (), ("a", "b"), (), ()),
                ("lump", "", ("a", "b"), ""), ("lump", (), "ab", ()), ("Lump", (), ("a", "b"), ()), ("lump",), ("lump", ("a", "b")),
                ("lump", (), ("a", ("lump", (), ("b",), ())), ()), ("lump", (), ("a", ["mixture", ("a",)]), ()),
                ("lump", (), (), (("lump", (), (), ("b", "b")),)), ("lump", None, ("a", "b"), None), ("lump", (), ("a", None), ()),
                ("mixture", ()), ("mixture", ("a", "a")), ("mixture", ("b", "a")), ("mixture", ("a", MIXED)), ("mixture", (A_B, "a")),
                ("mixture", (A_B, A_B)), ("mixture", ["a"]), ["mixture", ("a",)], ("mixture", "a"), ("mixture", "ab"), ("mixture",),
                ("mixture", ("a",), ("b",)), ("mixture", ("a", "B")), ("mixture", ("a", 0)), ("mixture", ("a", True)),
                ("mixture", (("mixture", ()),)), ("mixture", ("a",), (), ()), ("mix", ("a",)), ("join", ("a", "b")), ("right", "a"),
                (("lump",), (), ("a", "b"), ()), (True, (), ("a", "b"), ()), ("mixture", {"a": 1}), {"lump": 1}, ((), (), (), ())]:
            self.assertIs(level_letter_as_told(value), False, value)
            self.assertIs(kept(is_level_letter, value), False, value)
            for outer in (("mixture", (value,)), ("lump", (), ("a", value), ()), ("lump", (value,), (), ())):
                self.assertIs(is_level_letter(outer), False, outer)
        for value in ODD_VALUES:
            self.assertIs(kept(is_level_letter, value), level_letter_as_told(value), value)

    def test_one_change(self):
        for letter in some_letters(116, 120, 2):
            for value in nearly(letter):
                self.assertIs(kept(is_level_letter, value), level_letter_as_told(value), value)

    def test_all_short_lumps(self):
        words = [tuple(word) for many in range(3) for word in product("ab", repeat=many)]
        for told in product(words, repeat=3):
            self.assertIs(is_level_letter(("lump", *told)), in_one_form(*told), told)

    def test_letters_that_are_no_forms_are_letters_of_levels(self):
        near = ("lump", (), ("a", ("lump", (), ("b", "c"), ())), ())
        self.assertEqual([is_level_letter(near), is_level_letter(("mixture", (MIXED, "a")))], [True, True])

    def test_many_parts(self):
        word = tuple("ab"[k * k % 7 % 2] for k in range(640)) + ("c",)
        self.assertIs(is_level_letter(("lump", word, (), ())), True)
        self.assertIs(is_level_letter(("lump", word, (), word)), False)
        self.assertIs(is_level_letter(lump_of(word, (), word)), True)
        self.assertIs(is_level_letter(("lump", word, ("a",) * 600, word[1:])), level_letter_as_told(("lump", word, ("a",) * 600, word[1:])))


class TurnedAbout(unittest.TestCase):
    def test_each_kind(self):
        for letter, told in [
                ("a", "a"), (A_B, ("lump", ("b",), ("a",), ())), (("lump", (), ("a", "b"), ()), ("lump", (), ("b", "a"), ())),
                (EVER, ("lump", ("a",), (), ())), (("lump", ("a", "b"), (), ("a", "b")), ("lump", ("a", "b"), (), ("a", "b"))),
                (("lump", ("a", "b", "c"), (), ("a", "b", "c")), ("lump", ("a", "c", "b"), (), ("a", "c", "b"))),
                (("lump", ("a",), ("b",), ("c", "d")), ("lump", ("d", "c"), ("b",), ("a",))),
                (("lump", ("a", "b"), (), ("c", "a")), ("lump", ("a", "c"), (), ("b", "a"))),
                (("mixture", ("a", "b")), ("mixture", ("a", "b"))),
                (("mixture", (("lump", (), ("a", "b"), ()), ("lump", (), ("a", "c"), ()), ("lump", (), ("b", "c"), ()))),
                 ("mixture", (("lump", (), ("b", "a"), ()), ("lump", (), ("c", "a"), ()), ("lump", (), ("c", "b"), ())))),
                (("mixture", (("lump", (), ("a", "c"), ()), ("lump", (), ("b", "a"), ()))),
                 ("mixture", (("lump", (), ("a", "b"), ()), ("lump", (), ("c", "a"), ())))),
                (("mixture", (("lump", ("b",), ("a",), ()), A_B)), ("mixture", (("lump", ("b",), ("a",), ()), A_B))),
                (("lump", (), ("a", A_B), ()), ("lump", (), (("lump", ("b",), ("a",), ()), "a"), ()))]:
            self.assertIs(is_level_letter(letter), True, letter)
            self.assertEqual(kept(turned_letter, letter), told)

    def test_twice(self):
        for letter in some_letters(117, 500):
            told = kept(turned_letter, letter)
            self.assertIs(is_level_letter(told), True)
            self.assertEqual(turned_letter(told), letter)
            self.assertEqual([width(told), depth(told)], [width(letter), depth(letter)])

    def test_from_behind(self):
        def turned(letter):
            if isinstance(letter, str):
                return letter
            if letter[0] == "mixture":
                return ("mixture", tuple(sorted(map(turned, letter[1]), key=text_as_told)))
            return lump_of(*(tuple(map(turned, reversed(word))) for word in reversed(letter[1:])))

        for letter in some_letters(118, 500):
            told = turned_letter(letter)
            self.assertEqual(told, turned(letter))
            if letter[0] == "lump" and depth(letter) == 1:
                self.assertTrue(tell_the_same(tuple(word[::-1] for word in reversed(letter[1:])), parts_of(told)))


if __name__ == "__main__":
    unittest.main()
