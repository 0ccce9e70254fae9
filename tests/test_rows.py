"""[1.1] and [1.3]: rows and how they are joined."""

import random
import unittest

from everrows.rows import copies, depth_of, is_letter, is_row, joined, row_letters, size_of
from tests.rowmaking import ODD_VALUES, kept, nearly, random_row


def row_as_told(value):
    """[1.1], straight from the document."""
    if type(value) is str:
        return value in list("abcdefghijklmnopqrstuvwxyz")
    if type(value) is not tuple or len(value) != 2 or type(value[0]) is not str:
        return False
    if value[0] in ("right", "left"):
        return row_as_told(value[1])
    least = {"join": 2, "mix": 1}.get(value[0])
    return (least is not None and type(value[1]) is tuple and len(value[1]) >= least
            and all(row_as_told(row) for row in value[1]))


def size_as_told(row):
    if isinstance(row, str):
        return 1
    return 1 + sum(size_as_told(part) for part in (row[1] if row[0] in ("join", "mix") else [row[1]]))


def depth_as_told(row):
    if isinstance(row, str):
        return 0
    return 1 + max(depth_as_told(part) for part in (row[1] if row[0] in ("join", "mix") else [row[1]]))


def letters_as_told(row):
    if isinstance(row, str):
        return {row}
    return set().union(*(letters_as_told(part) for part in (row[1] if row[0] in ("join", "mix") else [row[1]])))


class Letters(unittest.TestCase):
    def test_all_letters(self):
        for sign in "abcdefghijklmnopqrstuvwxyz":
            self.assertIs(is_letter(sign), True)

    def test_what_is_none(self):
        for value in ["", "A", "Z", "aa", "az", "`", "{", "1", " ", "\n", "\t", "a ", " a", None, True, 1, 97, ("a",), ["a"],
                      {"a": 1}, (), [], {}]:
            self.assertIs(is_letter(value), False, value)


class AreRows(unittest.TestCase):
    def test_each_kind(self):
        for row in ["a", "z", ("join", ("a", "b")), ("join", ("a",) * 10), ("right", "a"), ("left", "a"), ("mix", ("a",)),
                    ("mix", ("a", "a")), ("join", (("join", ("a", "b")), "c")), ("right", ("left", ("mix", ("a", "b"))))]:
            self.assertIs(is_row(row), True, row)

    def test_odd_values_are_none(self):
        for value in ODD_VALUES:
            self.assertIs(is_row(value), False, value)

    def test_rows_with_a_part_changed(self):
        rng = random.Random(1)
        for _ in range(60):
            row = random_row(rng, 4)
            self.assertIs(is_row(row), True, row)
            for value in nearly(row):
                self.assertIs(kept(is_row, value), row_as_told(value), value)

    def test_a_row_within_many_rows(self):
        row, other = "a", "A"
        for _ in range(5000):
            row, other = ("right", row), ("right", other)
        self.assertTrue(is_row(row))
        self.assertFalse(is_row(other))
        self.assertEqual([size_of(row), depth_of(row), row_letters(row)], [5001, 5000, ["a"]])


class Told(unittest.TestCase):
    def test_size_counts_letters_and_words(self):
        self.assertEqual([size_of("a"), size_of(("right", "a")), size_of(("mix", ("a", "a"))), size_of(copies("a", 20))],
                         [1, 2, 3, 21])

    def test_depth_is_that_of_the_deepest_part(self):
        self.assertEqual([depth_of("a"), depth_of(("left", "a")), depth_of(("join", ("a", ("right", "b")))),
                          depth_of(("join", (("right", ("right", "b")), "a")))], [0, 1, 2, 3])

    def test_letters_ascend_each_once(self):
        self.assertEqual(row_letters(("join", ("c", ("mix", ("b", "c")), "a", "b"))), ["a", "b", "c"])

    def test_against_the_document(self):
        rng = random.Random(2)
        for _ in range(300):
            row = random_row(rng, 5)
            self.assertEqual(kept(size_of, row), size_as_told(row))
            self.assertEqual(kept(depth_of, row), depth_as_told(row))
            self.assertEqual(kept(row_letters, row), sorted(letters_as_told(row)))

    def test_the_list_is_a_new_one(self):
        row = ("join", ("b", "a"))
        first = row_letters(row)
        first.append("z")
        self.assertEqual(row_letters(row), ["a", "b"])


class Joined(unittest.TestCase):
    def test_one_row_stays(self):
        for row in ("a", ("join", ("a", "b")), ("right", "a")):
            self.assertEqual(kept(joined, [row]), row)
            self.assertEqual(kept(joined, (row,)), row)
            self.assertEqual(kept(copies, row, 1), row)

    def test_joins_stay_as_they_are(self):
        join = ("join", ("a", "b"))
        self.assertEqual(kept(joined, [join, "c", join]), ("join", (join, "c", join)))
        self.assertEqual(joined((join, "c")), ("join", (join, "c")))
        self.assertEqual(kept(copies, join, 2), ("join", (join, join)))
        self.assertEqual(copies("a", 20), ("join", ("a",) * 20))

    def test_the_list_that_is_passed_is_not_kept(self):
        rows = ["a", "b"]
        row = joined(rows)
        rows.append("c")
        self.assertEqual(row, ("join", ("a", "b")))
        self.assertTrue(is_row(row))


if __name__ == "__main__":
    unittest.main()
