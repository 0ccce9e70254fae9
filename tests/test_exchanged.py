"""[9.8], [9.9] and [7.8]: rows and readers turned about, and with rows in the place of letters."""

import random
import unittest

from everrows.agreeing import agree
from everrows.cuts import cuts, first_letter, last_letter, next_pairs, sorts_of_cuts
from everrows.exchanged import replaced, replaced_row, turned, turned_row
from everrows.leasts import least, rename
from everrows.levels import form, levels
from everrows.lumps import is_level_letter, letter_text, turned_letter
from everrows.one import are_one, is_form
from everrows.pieces import beginnings, ends, pieces
from everrows.readers import answer, is_reader, reader_letters
from everrows.rows import is_row
from tests.lumpmaking import random_level_letter
from tests.onemaking import MIX_A, RICH, again_and_again, join, size, some_rows
from tests.rowmaking import kept
from tests.tablemaking import EDGES, HAS, LAWFUL, SEES, WIDE, random_reader


def turned_as_told(row):
    if isinstance(row, str):
        return row
    word, told = row
    if word in ("right", "left"):
        return ("left" if word == "right" else "right", turned_as_told(told))
    parts = tuple(map(turned_as_told, told))
    return (word, parts[::-1] if word == "join" else parts)


def replaced_as_told(row, rows):
    if isinstance(row, str):
        return rows[row]
    return (row[0], replaced_as_told(row[1], rows) if row[0] in ("right", "left") else tuple(replaced_as_told(part, rows) for part in row[1]))


class TurnedRows(unittest.TestCase):
    def test_each_dealing(self):
        for row, told in [
                ("a", "a"), (join("a", "b", "c"), join("c", "b", "a")), (("right", join("a", "b")), ("left", join("b", "a"))), (("left", "a"), ("right", "a")),
                (("mix", (join("a", "b"), "c")), ("mix", (join("b", "a"), "c"))), (join("a", join("b", ("right", "c"))), join(join(("left", "c"), "b"), "a"))]:
            self.assertEqual([kept(turned_row, row), turned_row(told)], [told, row])

    def test_against_the_document_and_twice(self):
        rng = random.Random(210)
        for row in RICH + some_rows(rng, 200, 5, "abc"):
            told = kept(turned_row, row)
            self.assertEqual(told, turned_as_told(row))
            self.assertIs(is_row(told), True)
            self.assertEqual(turned_row(told), row)

    def test_the_form_of_the_row_turned_about(self):
        rng = random.Random(211)
        for row in RICH + some_rows(rng, 150, 4, "abc"):
            self.assertEqual(form(turned_row(row)), turned_letter(form(row)), row)
            self.assertEqual([sorted(letter_text(turned_letter(letter)) for letter in letters) for letters in levels(row)],
                             [list(map(letter_text, letters)) for letters in levels(turned_row(row))])
            for other in again_and_again(rng, row, 2):
                self.assertIs(are_one(turned_row(row), turned_row(other)), True)
        for _ in range(200):
            letter = random_level_letter(rng, 3)
            self.assertIs(is_level_letter(turned_letter(letter)), True)
            self.assertIs(is_form(turned_letter(letter)), is_form(letter))

    def test_what_is_told_of_it(self):
        exchanged = {"jump": "jump", "gap": "gap", "first": "last", "last": "first"}
        rng = random.Random(212)
        for row in RICH + some_rows(rng, 60, 4, "abc"):
            other = turned_row(row)
            self.assertEqual([first_letter(other), last_letter(other)], [last_letter(row), first_letter(row)])
            self.assertEqual(sorts_of_cuts(other), sorted(exchanged[sort] for sort in sorts_of_cuts(row)))
            self.assertEqual(next_pairs(other), sorted((d, c) for c, d in next_pairs(row)))


class TurnedReaders(unittest.TestCase):
    def test_against_the_document(self):
        rng = random.Random(213)
        for table in LAWFUL + WIDE:
            reader = random_reader(rng, "abc", [table])
            told = kept(turned, reader)
            n = len(table[0])
            self.assertEqual(told[0], (tuple(tuple(table[0][b][a] for b in range(n)) for a in range(n)), table[2], table[1], table[3]))
            self.assertEqual(told[1:], reader[1:])
            self.assertIs(is_reader(told), True)
            self.assertEqual(turned(told), reader)
            for row in rng.sample(RICH, 8) + some_rows(rng, 8, 4, "abc"):
                other = turned_row(row)
                self.assertEqual(answer(told, other), answer(reader, row))
                self.assertEqual(cuts(told, other), sorted((t, s) for s, t in cuts(reader, row)))
                self.assertEqual([beginnings(told, other), ends(told, other), pieces(told, other)],
                                 [ends(reader, row), beginnings(reader, row), pieces(reader, row)])

    def test_the_least_reader_turned_about(self):
        rng = random.Random(214)
        for table in LAWFUL + WIDE:
            reader = random_reader(rng, "ab", [table])
            self.assertEqual(rename(turned(least(reader)), turned(reader))[0], "same")
            self.assertEqual(agree(reader, least(reader))[0], "agree")
            self.assertEqual(rename(reader, least(reader))[0], "same")
            self.assertEqual(agree(turned(turned(reader)), reader)[0], "agree")

    def test_edges(self):
        told = turned((EDGES, (("a", 3),), (2,)))
        self.assertEqual([answer(told, ("right", "a")), answer(told, ("left", "a"))], [1, 2])


class Replaced(unittest.TestCase):
    def test_rows(self):
        rows = {"a": join("b", "c"), "b": MIX_A, "c": "c", "z": ("right", "q")}
        for row, told in [
                ("c", "c"), ("a", join("b", "c")), (join("a", "z"), join(join("b", "c"), ("right", "q"))), (("left", "b"), ("left", MIX_A)),
                (("mix", ("a", "b", "a")), ("mix", (join("b", "c"), MIX_A, join("b", "c"))))]:
            self.assertEqual(kept(replaced_row, row, rows), told)
        rng = random.Random(215)
        for _ in range(200):
            row, *others = some_rows(rng, 4, 3, "abc", 12)
            rows = dict(zip("abc", others))
            told = kept(replaced_row, row, rows)
            self.assertEqual(told, replaced_as_told(row, rows))
            self.assertIs(is_row(told), True)
            for other in again_and_again(rng, row, 1, 12):
                self.assertIs(are_one(replaced_row(other, rows), told), True)
            self.assertIs(are_one(replaced_row(row, {letter: again_and_again(rng, one, 1)[-1] if size(one) > 1 else one for letter, one in rows.items()}), told), True)

    def test_readers(self):
        rng = random.Random(216)
        for table in LAWFUL + WIDE:
            reader = random_reader(rng, "abc", [table])
            for letters in ("a", "xc", "edcba"):
                rows = {letter: row for letter, row in zip(letters, some_rows(rng, 5, 3, "abc", 12))}
                told = kept(replaced, reader, rows)
                self.assertIs(is_reader(told), True)
                self.assertEqual([told[0], told[2], reader_letters(told)], [reader[0], reader[2], sorted(letters)])
                self.assertEqual(dict(told[1]), {letter: answer(reader, row) for letter, row in rows.items()})
                for row in some_rows(rng, 5, 3, letters, 12):
                    self.assertEqual(answer(told, row), answer(reader, replaced_row(row, rows)))
                    self.assertEqual(answer(turned(told), turned_row(row)), answer(reader, replaced_row(row, rows)))

    def test_each_letter_by_itself(self):
        self.assertEqual(replaced(SEES, {"b": "b", "a": "a"}), SEES)
        self.assertEqual(replaced((HAS, (("a", 1), ("q", 0)), (1,)), {"q": join("q", "a"), "b": "q"}), (HAS, (("b", 0), ("q", 1)), (1,)))
        for row in RICH:
            self.assertEqual(replaced_row(row, {letter: letter for letter in "abc"}), row)


if __name__ == "__main__":
    unittest.main()
