"""[1.4] and [1.5]: the texts of rows, and reading them."""

import random
import unittest
from itertools import product

from everrows.errors import BadText
from everrows.rows import copies, is_row, joined
from everrows.texts import read_row, row_text
from tests.rowmaking import ODD_VALUES, kept, random_row


def text_as_told(row):
    """[1.4], straight from the document."""
    if isinstance(row, str):
        return row
    word, told = row
    if word == "right":
        return "(" + text_as_told(told) + ")>"
    if word == "left":
        return "<(" + text_as_told(told) + ")"
    if word == "mix":
        return "[" + ", ".join(text_as_told(part) for part in told) + "]"
    return " ".join("(" + text_as_told(part) + ")" if part[0] == "join" else text_as_told(part) for part in told)


def most_open(text):
    now = most = 0
    for sign in text:
        now += (sign in "([") - (sign in ")]")
        most = max(most, now)
    return most


def place_of(text):
    """The place that BadText bears, or None if the text is read."""
    try:
        row = read_row(text)
    except BadText as error:
        return error.place
    assert is_row(row) and text_as_told(row) == text, text
    return None


class Language:
    """All texts of rows, and all beginnings of such, up to a length: sets put together as [1.4] puts texts together.

    A part is (texts, beginnings). That of a chain is made of those of its links.
    """

    def __init__(self, longest):
        self.longest = longest
        self.memory = {}

    def word(self, text):
        return ({text} if len(text) <= self.longest else set(),
                {text[:k] for k in range(len(text) + 1) if k <= self.longest})

    def chain(self, *links):
        texts, beginnings = {""}, {""}
        for more, begun in links:
            beginnings |= {text + more_text for text in texts for more_text in begun
                           if len(text) + len(more_text) <= self.longest}
            texts = {text + more_text for text in texts for more_text in more
                     if len(text) + len(more_text) <= self.longest}
        return texts, beginnings

    def choice(self, *parts):
        return set().union(*(part[0] for part in parts)), set().union(*(part[1] for part in parts))

    def many(self, between, part, least):
        """least or more of a part, with a word between two."""
        found = now = self.chain(*([part] + [self.word(between), part] * (least - 1)))
        while now[0]:
            now = self.chain(now, self.word(between), part)
            if now[0] <= found[0] and now[1] <= found[1]:
                break
            found = self.choice(found, now)
        return found

    def unit(self, left):
        found = [self.word("a")]
        if left:
            found += [self.chain(self.word("("), self.row(left - 1), self.word(")>")),
                      self.chain(self.word("<("), self.row(left - 1), self.word(")")),
                      self.chain(self.word("["), self.many(", ", self.row(left - 1), 1), self.word("]"))]
        return self.choice(*found)

    def join(self, left):
        part = self.unit(left)
        if left:
            part = self.choice(part, self.chain(self.word("("), self.join(left - 1), self.word(")")))
        return self.many(" ", part, 2)

    def row(self, left):
        """The texts in which at most so many brackets are open at once."""
        if left not in self.memory:
            self.memory[left] = self.choice(self.unit(left), self.join(left))
        return self.memory[left]


class Texts(unittest.TestCase):
    def test_each_kind(self):
        join = ("join", ("a", "b"))
        for row, text in [("a", "a"), (("right", "a"), "(a)>"), (("left", "a"), "<(a)"), (("mix", ("a",)), "[a]"),
                          (("mix", ("a", "b", "a")), "[a, b, a]"), (join, "a b"), (("join", ("a", join)), "a (a b)"),
                          (("join", (join, join)), "(a b) (a b)"), (("right", join), "(a b)>"), (("left", join), "<(a b)"),
                          (("mix", (join, "c")), "[a b, c]"), (("right", ("right", "a")), "((a)>)>"),
                          (("join", (("join", (join, "a")), "b")), "((a b) a) b"),
                          (("right", ("join", (join, "c"))), "((a b) c)>"),
                          (("join", (("right", join), ("left", join))), "(a b)> <(a b)")]:
            self.assertEqual(kept(row_text, row), text)
            self.assertEqual(kept(read_row, text), row)

    def test_there_and_back(self):
        rng = random.Random(3)
        for _ in range(500):
            row = random_row(rng, 5)
            text = text_as_told(row)
            self.assertEqual(kept(row_text, row), text)
            if most_open(text) <= 6:
                self.assertEqual(kept(read_row, text), row)
            else:
                self.assertRaises(BadText, read_row, text)

    def test_texts_of_what_joined_and_copies_return(self):
        row = copies(joined([("join", ("a", "b")), "c"]), 20)
        self.assertEqual(row_text(row), " ".join(["((a b) c)"] * 20))
        self.assertEqual(read_row(row_text(row)), row)

    def test_a_row_within_many_rows(self):
        row = "a"
        for _ in range(3000):
            row = ("right", row)
        self.assertEqual(row_text(row), "(" * 3000 + "a" + ")>" * 3000)


class Refused(unittest.TestCase):
    def test_what_is_no_string(self):
        for value in ODD_VALUES + ([["a"]], ("right", "a"), {"a": "a"}, 97):
            if not isinstance(value, str):
                self.assertEqual(place_of(value), 0, value)

    def test_texts_that_end_too_early(self):
        for text in ["", "a ", "(", "(a", "(a ", "(a b", "(a b)", "(a)", "<", "<(", "<(a", "[", "[a", "[a,", "[a, ", "[a, b",
                     "c (a b", "((a b)", "((a b) c", "((a b) c)", "a (b c) <(d", "[(a b)", "[(a b) "]:
            self.assertEqual(place_of(text), len(text), text)

    def test_the_first_sign_that_cannot_follow(self):
        for text, place in [("(a)", 3), ("(a) b", 3), ("(a)b", 3), ("[(a b)]", 6), ("[(a b), c]", 6), ("a  b", 2), (" a", 0),
                            ("a\n", 1), ("A", 0), ("ab", 1), ("1", 0), (")", 0), ("]", 0), (">", 0), (",", 0), ("a)", 1),
                            ("a]", 1), ("a>", 1), ("a,", 1), ("<a", 1), ("<<(a)", 1), ("<[", 1), ("<(a)>", 4), ("[a,b]", 3),
                            ("[a b,  c]", 6), ("[]", 1), ("()", 1), ("<()", 2), ("[a]>", 3), ("[a] ]", 4), ("(a)>>", 4),
                            ("(a b)b", 5), ("(a b),", 5), ("(a b))", 5), ("((a b))", 6), ("((a b))>", 6), ("<((a b))", 7),
                            ("c (a b))", 7), ("c (a b)a", 7), ("c (a b)]", 7), ("a\tb", 1), ("(a]", 2), ("[a)", 2),
                            ("[a, b, ]", 7), ("<(a b)> c", 6), ("(c (a))>", 6), ("a" * 2000, 1)]:
            self.assertEqual(place_of(text), place, text)

    def test_six_brackets_are_open_at_most(self):
        for opened in product(["(", "<(", "["], repeat=6):
            text = "".join(opened) + "a" + "".join({"(": ")>", "<(": ")", "[": "]"}[word] for word in opened[::-1])
            self.assertEqual(place_of(text), None, text)
            for more in ("(a)>", "<(a)", "[a]", "(a b) c", "<", ")"):
                begun = "".join(opened)
                self.assertEqual(place_of(begun + more), len(begun), begun + more)
                self.assertEqual(place_of(begun + "a " + more), len(begun) + 2, begun + more)
        self.assertEqual(place_of("(" * 6 + "a b" + ") c" * 6), None)
        self.assertEqual(place_of("(" * 7 + "a b" + ") c" * 7), 6)
        self.assertEqual(place_of(" ".join(["((((((a)>)>)>)>)>)>"] * 9)), None)
        self.assertEqual(place_of("a " + "[" * 6 + "a" + "]" * 6 + " " + "[" * 7), 2 + 13 + 1 + 6)

    def test_against_all_short_texts(self):
        texts, beginnings = Language(9).row(6)
        signs = "a ()><[],"
        for text in ["".join(some) for length in range(5) for some in product(signs, repeat=length)]:
            begun = max(k for k in range(len(text) + 1) if text[:k] in beginnings)
            self.assertEqual(place_of(text), None if text in texts else begun, text)
        for text in sorted(begun + sign for begun in beginnings if len(begun) < 9 for sign in signs):
            begun = len(text) if text in beginnings else len(text) - 1
            self.assertEqual(place_of(text), None if text in texts else begun, text)

    def test_beginnings_and_changed_texts(self):
        rng = random.Random(4)
        for _ in range(300):
            text = text_as_told(random_row(rng, 4))
            if most_open(text) > 6:
                continue
            for k in range(len(text)):
                self.assertIn(place_of(text[:k]), (None, k))
                self.assertGreaterEqual(place_of(text[:k] + "A" + text[k:]), k)
                self.assertLessEqual(place_of(text[:k] + "A" + text[k:]), k)
                sign = rng.choice("ab ()<>[],")
                other = text[:k] + sign + text[k + 1:]
                place = place_of(other)
                self.assertTrue(place is None or k <= place <= len(other), other)
                if place is not None:
                    self.assertIn(place_of(other[:place]), (None, place), other)


if __name__ == "__main__":
    unittest.main()
