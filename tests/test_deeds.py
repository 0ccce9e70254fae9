"""[10.1], [10.2] and [10.3]: things, shelves, deeds and their texts."""

import random
import unittest
from collections import Counter

from everrows.deeds import after, deed_text, is_thing, read_deed, thing_text
from everrows.errors import BadDeed, BadName, BadText, TooMany, UnknownName
from everrows.exchanged import turned, turned_row
from everrows.leasts import least
from everrows.made import beside
from everrows.sides import put_at
from everrows.texts import row_text
from tests.housemaking import (NAMES, NO_NAMES, WORDS, after_as_told, many_parts, name_as_told, names_in, raised, random_deed, shape_as_told,
                               some_things, thing_as_told)
from tests.onemaking import MIX_A, RICH, join, some_rows
from tests.rowmaking import ODD_VALUES, kept, nearly
from tests.tablemaking import EDGES, HAS, LAWFUL, ONE, SEES, SIX, WIDE, random_reader

OTHER = (HAS, (("a", 0), ("b", 1)), (1,))
GREATEST = ("right", ("left", ("right", ("mix", ("a", join(*"abcdefghijklmnopqr"))))))
DEEP = ("right", ("right", ("right", ("right", ("right", ("right", "a"))))))
SHELF = {"p": ("row", "a"), "q": ("row", ("right", join("a", "b"))), "m": ("row", MIX_A), "s": ("reader", SEES), "t": ("reader", OTHER),
         "u": ("reader", (HAS, (("a", 1),), (1,))), "big": ("row", GREATEST), "deep": ("row", DEEP)}


def reader_text_as_told(reader):
    (both, right, left, mixed), letters, yes = reader
    words = [",".join(f"{letter}{s}" for letter, s in letters), "/".join("".join(map(str, row)) for row in both)]
    words += ["".join(map(str, part)) for part in (right, left, mixed)]
    return " ".join(words + ["".join(map(str, yes)) or "-"])


def deed_text_as_told(deed):
    """[10.3], straight from the document."""
    word, *parts = deed
    words = [word]
    for part in parts:
        if word == "row" and part is deed[2]:
            words.append(row_text(part))
        elif word == "reader" and part is deed[2]:
            words.append(reader_text_as_told(part))
        elif word in ("join", "mix") and part is deed[2]:
            words += part
        elif word == "put" and part is deed[3]:
            words.append(".".join(map(str, part)) or "-")
        else:
            words.append(part)
    return " ".join(words)


def good_deeds(rng, many):
    """Deeds that have texts."""
    found = []
    while len(found) < many:
        shelf = dict(zip("pqrstuv", some_things(rng)))
        deed = random_deed(rng, shelf, 0)
        if shape_as_told(deed) and all(map(name_as_told, names_in(deed))):
            found.append(deed)
    return found


class Things(unittest.TestCase):
    def test_things(self):
        rng = random.Random(220)
        for row in RICH + [GREATEST, DEEP, many_parts(23)]:
            self.assertIs(kept(is_thing, ("row", row)), True)
        for table in LAWFUL + WIDE:
            self.assertIs(kept(is_thing, ("reader", random_reader(rng, "abcde", [table]))), True)

    def test_what_is_none(self):
        for value in [("row", ("right", GREATEST)), ("row", join(GREATEST, "a")), ("row", ("right", DEEP)), ("row", many_parts(24)), ("row", "ab"), ("row", ["right", "a"]),
                      ["row", "a"], ("row",), ("row", "a", "a"), ("Row", "a"), ("reader", "a"), ("row", SEES), ("reader", SEES[:2]), ("reader", list(SEES)),
                      ("reader", (HAS, (("a", 1), ("b", 0)), [1])), ("reader", (HAS, (("a", True), ("b", 0)), (1,))), ("reader", (((0, 1),), (), ())), (True, "a"),
                      ("reader", ((((0, 1), (1, 1)), (0, 1), (0, 1), (0, 1, 0)), (("a", 1),), ()))]:
            self.assertIs(kept(is_thing, value), False, value)
        for value in ODD_VALUES:
            for one in (value, ("row", value), ("reader", value), (value, "a")):
                self.assertIs(kept(is_thing, one), thing_as_told(one), one)
        for thing in (("row", join("a", ("mix", ("b",)))), ("reader", SEES)):
            for value in nearly(thing):
                self.assertIs(kept(is_thing, value), thing_as_told(value), value)

    def test_texts(self):
        for thing, text in [
                (("row", join("a", ("right", join("a", "b")))), "a (a b)>"), (("reader", SEES), "a1,b0 01/11 01 01 011 1"),
                (("reader", (ONE, (("q", 0),), ())), "q0 0 0 0 0 -"), (("reader", (ONE, (("q", 0),), (0,))), "q0 0 0 0 0 0"),
                (("reader", (SIX, (("a", 5), ("z", 0)), (0, 3, 5))), f"a5,z0 000333/111444/222555/333333/444444/555555 012345 000333 {'0' * 7 + '3' * 56} 035")]:
            self.assertEqual(kept(thing_text, thing), text)
        rng = random.Random(221)
        for table in LAWFUL + WIDE:
            reader = random_reader(rng, "abc", [table])
            self.assertEqual(thing_text(("reader", reader)), reader_text_as_told(reader))
        for row in RICH:
            self.assertEqual(thing_text(("row", row)), row_text(row))


class After(unittest.TestCase):
    def test_each_deed(self):
        long = join("a", "b")
        for deed, thing in [
                (("row", "n", long), ("row", long)), (("row", "p", "b"), ("row", "b")), (("reader", "n", OTHER), ("reader", OTHER)),
                (("reader", "p", OTHER), ("reader", OTHER)), (("join", "n", ("p", "q", "p")), ("row", join("a", SHELF["q"][1], "a"))),
                (("join", "p", ("p", "p")), ("row", join("a", "a"))), (("mix", "n", ("p",)), ("row", MIX_A)), (("mix", "q", ("q", "p", "q", "p", "p", "p")),
                 ("row", ("mix", (SHELF["q"][1], "a", SHELF["q"][1], "a", "a", "a")))), (("right", "n", "q"), ("row", ("right", SHELF["q"][1]))),
                (("left", "q", "q"), ("row", ("left", SHELF["q"][1]))), (("put", "n", "p", (), "q"), ("row", SHELF["q"][1])),
                (("put", "n", "q", (2, 1), "m"), ("row", put_at(SHELF["q"][1], (2, 1), MIX_A))), (("put", "n", "m", (3, 3), "p"), ("row", put_at(MIX_A, (3, 3), "a"))), (("put", "n", "m", (31, 6), "p"), ("row", join(MIX_A, "a", MIX_A))),
                (("turn", "n", "q"), ("row", turned_row(SHELF["q"][1]))), (("turn", "s", "s"), ("reader", turned(SEES))), (("least", "n", "s"), ("reader", least(SEES))),
                (("beside", "n", "s", "and", "t"), ("reader", beside(SEES, OTHER, "and"))), (("beside", "t", "s", "or", "t"), ("reader", beside(SEES, OTHER, "or"))),
                (("turn", "n", "big"), ("row", turned_row(GREATEST))), (("turn", "n", "deep"), ("row", turned_row(DEEP)))]:
            self.assertEqual(kept(after, SHELF, deed), {**SHELF, deed[1]: thing}, deed)
        self.assertEqual(kept(after, SHELF, ("away", "p")), {name: thing for name, thing in SHELF.items() if name != "p"})
        self.assertEqual(after({"p": ("row", "a")}, ("away", "p")), {})

    def test_each_error_in_its_order(self):
        full = {name: ("row", "a") for name in "abcdefghijkl"}
        for deed, error, *name in [
                (("row", "A", ("right", GREATEST)), BadDeed), (("row", "A", "ab"), BadDeed), (("row", "A", "a"), BadName, "A"), (("row", "p", ["right", "a"]), BadDeed),
                (("row", "p", ("right", DEEP)), BadDeed), (("reader", None, SEES[:2]), BadDeed), (("reader", None, SEES), BadName, None), (("row", "p", SEES), BadDeed),
                (("reader", "p", "a"), BadDeed), (("join", "A", ("p",)), BadDeed), (("join", "A", ("p", "B")), BadName, "A"), (("join", "n", ("x", "B")), BadName, "B"),
                (("join", "n", ("x", "s")), UnknownName, "x"), (("join", "n", ("s", "x")), UnknownName, "x"), (("join", "n", ("p", "s")), BadDeed), (("join", "n", ("p", "big")), TooMany),
                (("join", "n", ["p", "q"]), BadDeed), (("join", "n", ("p",) * 7), BadDeed), (("join", "n", ()), BadDeed), (("join", "n", "pq"), BadDeed), (("mix", "n", ()), BadDeed),
                (("mix", "n", ("p",) * 7), BadDeed), (("mix", "n", ("s",)), BadDeed), (("mix", "n", ("deep",)), TooMany), (("mix", "n", ("big",)), TooMany),
                (("mix", "n", (["p"],)), BadName, ["p"]), (("mix", "n", ("p", True)), BadName, True), (("right", "n", "deep"), TooMany), (("left", "n", "deep"), TooMany),
                (("right", "n", "big"), TooMany), (("right", "n", "s"), BadDeed), (("right", 1, "P"), BadName, 1), (("right", "n", "P"), BadName, "P"), (("left", "n", "n"), UnknownName, "n"),
                (("right", "n"), BadDeed), (("right", "n", "p", "p"), BadDeed), (("put", "N", "p", [0], "q"), BadDeed), (("put", "N", "p", (-1,), "q"), BadDeed),
                (("put", "N", "p", (True,), "q"), BadDeed), (("put", "N", "p", None, "q"), BadDeed), (("put", "N", "p", ("0",), "q"), BadDeed), (("put", "n", "x", (0,), "Q"), BadName, "Q"),
                (("put", "n", "x", (0,), "y"), UnknownName, "x"), (("put", "n", "p", (0,), "y"), UnknownName, "y"), (("put", "n", "p", (0,), "q"), BadDeed),
                (("put", "n", "s", (), "q"), BadDeed), (("put", "n", "p", (), "s"), BadDeed), (("put", "n", "q", (8, 1), "p"), None), (("put", "n", "q", (8, 1), "m"), None), (("put", "n", "q", (9, 0), "p"), TooMany),
                (("put", "n", "q", (10 ** 9, 0), "p"), TooMany), (("put", "n", "q", (10 ** 9, 2), "p"), BadDeed), (("put", "n", "m", (2, 2), "p"), BadDeed), (("turn", "n", "x"), UnknownName, "x"),
                (("turn", "n", []), BadName, []), (("least", "n", "p"), BadDeed), (("least", "n", "n"), UnknownName, "n"), (("beside", "N", "x", "xor", "y"), BadDeed),
                (("beside", "N", "x", True, "y"), BadDeed), (("beside", "N", "x", "and", "y"), BadName, "N"), (("beside", "n", "s", "and", "y"), UnknownName, "y"),
                (("beside", "n", "s", "or", "p"), BadDeed), (("beside", "n", "s", "and", "u"), BadDeed), (("beside", "n", "u", "and", "u"), None), (("away", "x"), UnknownName, "x"),
                (("away", "X"), BadName, "X"), (("away",), BadDeed), (("away", "p", "q"), BadDeed), (("stay", "p"), BadDeed), (("Row", "n", "a"), BadDeed), ((), BadDeed), (["away", "p"], BadDeed),
                (None, BadDeed), ("away", BadDeed), ((["away"], "p"), BadDeed), (({}, "p"), BadDeed), ((True, "p"), BadDeed), (("row", {}, "a"), BadName, {})]:
            told = raised(kept, after, SHELF, deed)
            if error is None:
                self.assertEqual((told[0], set(told[1])), ("returns", {*SHELF, "n"}), deed)
            else:
                self.assertEqual(told, ("raises", error.__name__, repr({"name": name[0]} if name else {})), deed)
        for deed in (("row", "m", "a"), ("right", "m", "a"), ("mix", "m", ("a", "b"))):
            with self.assertRaises(TooMany):
                kept(after, full, deed)
        eleven = after(full, ("away", "c"))
        for deed in (("row", "m", "a"), ("right", "m", "a"), ("join", "c", ("a", "b"))):
            self.assertEqual(len(kept(after, eleven, deed)), 12)
        self.assertEqual([len(after(full, ("row", "a", "b"))), len(after(full, ("away", "a"))), after(full, ("right", "l", "a"))["l"]], [12, 11, ("row", ("right", "a"))])
        with self.assertRaises(BadDeed):
            after({**SHELF, **{name: ("row", "a") for name in "cdfg"}}, ("right", "n", "s"))

    def test_beside_too_many(self):
        shelf = {"a": ("reader", (EDGES, (("a", 3),), (1,))), "b": ("reader", (WIDE[3], (("a", 1),), (1,)))}
        with self.assertRaises(TooMany):
            kept(after, shelf, ("beside", "c", "a", "and", "b"))

    def test_any_deeds_against_the_document(self):
        rng, seen = random.Random(222), Counter()
        for _ in range(4000):
            shelf = dict(zip(rng.sample(NAMES, 5), some_things(rng)))
            deed = random_deed(rng, shelf, 0.15)
            told = raised(kept, after, shelf, deed)
            self.assertEqual(told, raised(after_as_told, shelf, deed), (shelf, deed))
            seen[deed[0] if told[0] == "returns" else told[1]] += 1
        self.assertTrue(all(seen[word] > 20 for word in WORDS + ("BadDeed", "BadName", "UnknownName")), seen)
        for value in ODD_VALUES:
            for word in WORDS:
                for deed in (value, (word, value), (word, "n", value), (word, "n", "p", value, "q"), (word, "n", "s", value, "t"), (word, value, "p"), (word, "n", (value, "p")),
                             (word, "n", value, (), "p"), (word, "n", "p", (), value), (value, "n", "p"), (word, "n", "p", (value,), "p"), (word, value, ("p", "p"))):
                    self.assertEqual(raised(after, SHELF, deed), raised(after_as_told, SHELF, deed), deed)

    def test_the_shelf_is_a_new_one(self):
        shelf = {"p": ("row", "a")}
        for deed in (("row", "p", "a"), ("row", "q", "b")):
            told = after(shelf, deed)
            told.clear()
            self.assertEqual(shelf, {"p": ("row", "a")})
        deed = ("mix", "q", ("p",))
        told = after(shelf, deed)
        shelf.clear()
        self.assertEqual(told, {"p": ("row", "a"), "q": ("row", MIX_A)})


class Texts(unittest.TestCase):
    def test_each_word(self):
        for deed, text in [
                (("row", "p", join("a", ("right", join("a", "b")))), "row p a (a b)>"), (("row", "row", "a"), "row row a"), (("row", "p", join(join("a", "b"), "c")), "row p (a b) c"),
                (("reader", "s", SEES), "reader s a1,b0 01/11 01 01 011 1"), (("reader", "s", (ONE, (("q", 0),), ())), "reader s q0 0 0 0 0 -"),
                (("join", "r", ("p", "q", "p")), "join r p q p"), (("mix", "r", ("q",)), "mix r q"), (("right", "abcdefgh", "p"), "right abcdefgh p"), (("left", "left", "left"), "left left left"),
                (("put", "r", "p", (), "q"), "put r p - q"), (("put", "r", "p", (0, 12, 3, 999999999), "q"), "put r p 0.12.3.999999999 q"), (("turn", "r", "p"), "turn r p"),
                (("least", "r", "s"), "least r s"), (("beside", "r", "s", "or", "and"), "beside r s or and"), (("away", "r"), "away r")]:
            self.assertEqual(kept(deed_text, deed), text)
            self.assertEqual(kept(read_deed, text), deed)

    def test_all_kinds_read_back(self):
        rng, seen = random.Random(223), set()
        for deed in good_deeds(rng, 600) + [("row", "p", row) for row in RICH + [GREATEST, DEEP] + some_rows(rng, 50, 5, "abcz") if thing_as_told(("row", row))] + [
                ("reader", "p", random_reader(rng, "bcxyz", [table])) for table in LAWFUL + WIDE]:
            text = kept(deed_text, deed)
            self.assertEqual(text, deed_text_as_told(deed))
            self.assertEqual(read_deed(text), deed)
            seen.add(deed[0])
        self.assertEqual(seen, set(WORDS))

    def test_what_is_none(self):
        sees = "a1,b0 01/11 01 01 011 1"
        for text in [
                "", " ", "row", "row p", "row p ", "row  p a", "row p  a", "row p a ", " row p a", "row P a", "row abcdefghi a", "row p A", "row p aa", "row p (a)", "row p a b)", "Row p a", "row p a\n",
                "row p " + row_text(("right", GREATEST)), "row p " + row_text(join(GREATEST, "a")), "row p " + row_text(many_parts(24)), "row p " + row_text(("right", DEEP)), "row p a\tb",
                "reader s", "reader s ", "reader s " + sees + " ", "reader s  " + sees, "reader S " + sees, "reader s b0,a1 01/11 01 01 011 1", "reader s a1,a0 01/11 01 01 011 1",
                "reader s a1 b0 01/11 01 01 011 1", "reader s a1,b0, 01/11 01 01 011 1", "reader s a1,b 01/11 01 01 011 1", "reader s a1,b00 01/11 01 01 011 1", "reader s a1,b2 01/11 01 01 011 1",
                "reader s a1,b0 01/11/ 01 01 011 1", "reader s a1,b0 01,11 01 01 011 1", "reader s a1,b0 0111 01 01 011 1", "reader s a1,b0 01/11 01 01 010 1", "reader s a1,b0 01/11 01 01 011",
                "reader s a1,b0 01/11 01 01 011 ", "reader s a1,b0 01/11 01 01 011 10", "reader s a1,b0 01/11 01 01 011 11", "reader s a1,b0 01/11 01 01 011 -1", "reader s a1,b0 01/11 01 01 011 1-",
                "reader s a1,b0 01/11 01 01 011 2", "reader s a1,b0 01/11 - 01 011 1", "reader s - 01/11 01 01 011 1", "reader s a1,b0 01/11 01 01 011 1 1", "reader s a1,b0 01/1a 01 01 011 1",
                "reader s 1a,b0 01/11 01 01 011 1", "reader s a1,b0 10/00 01 01 011 1", "reader s a1,b0,c0,d0,e0,f0 01/11 01 01 011 1", "reader s aa1,b0 01/11 01 01 011 1", "reader s A1 01/11 01 01 011 1",
                "join r", "join r p", "join r p q p q p q p", "join r p  q", "join r p Q", "join R p q", "join r p q ", "mix r", "mix r ", "mix r p p p p p p p", "mix  r p", "mix r p,q", "right r",
                "right r p q", "right r P", "right abcdefghi p", "right r abcdefghi", "left r  p", "left  r p", "left", "put r p q", "put r p  q", "put r p 0", "put r p 00 q", "put r p 01 q", "put r p 0.01 q",
                "put r p 0. q", "put r p .0 q", "put r p 0..1 q", "put r p -0 q", "put r p -1 q", "put r p 0.- q", "put r p -- q", "put r p 1234567890 q", "put r p 0.1234567890 q", "put r p 1,2 q",
                "put r p +1 q", "put r p 1_0 q", "put r p a q", "put r p () q", "put r p 0 q r", "put - p - q", "put r - - q", "put r p - -", "turn r", "turn r p q", "turn r -", "least r", "least r s t",
                "beside r s t", "beside r s xor t", "beside r s and", "beside r s and t u", "beside r s AND t", "beside r s  and t", "away", "away ", "away p q", "away P", "away abcdefghi", "stay r", "undo", "-",
                "ahead p 0", "row p [a,b]", "row p [a,  b]", "row p ((a b)>)>)"]:
            with self.assertRaises(BadText, msg=text) as caught:
                kept(read_deed, text)
            self.assertEqual(caught.exception.place, 0)
        for value in ODD_VALUES + (("away", "p"), b"away p", ["away", "p"], NO_NAMES):
            with self.assertRaises(BadText, msg=value) as caught:
                kept(read_deed, value)
            self.assertEqual(caught.exception.place, 0)

    def test_texts_with_one_change(self):
        rng = random.Random(224)
        for deed in good_deeds(rng, 150):
            text = deed_text(deed)
            for _ in range(12):
                k = rng.randrange(len(text) + 1)
                other = rng.choice((text[:k] + text[k + 1:], text[:k] + rng.choice("ab01 -.,/()[]<>Z") + text[k:], text[:k] + rng.choice("ab01 -.,/") + text[k + 1:]))
                try:
                    told = read_deed(other)
                except BadText as error:
                    self.assertEqual(error.place, 0)
                    continue
                self.assertEqual(deed_text_as_told(told), other)
                self.assertTrue(shape_as_told(told) and all(map(name_as_told, names_in(told))), told)

    def test_long_texts(self):
        for text in ("row p " + "(" * 1990, "row p " + "a " * 990 + "a", "join r" + " p" * 990, "reader s " + "a1," * 600, "put r p " + "1." * 990 + "1 q", "reader s a1 " + "01/" * 600 + "0 0 0 0 -"):
            try:
                told = read_deed(text)
            except BadText as error:
                self.assertEqual(error.place, 0)
                continue
            self.assertEqual(deed_text_as_told(told), text)


if __name__ == "__main__":
    unittest.main()
