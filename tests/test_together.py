"""What the parts promise together: rows told otherwise, turned about and replaced, and readers made of one another."""

import random
import unittest

from everrows.agreeing import agree, disjoint, judge_agree, within
from everrows.cuts import ahead_pairs, cuts, next_pairs, sorts_of_cuts
from everrows.exchanged import replaced, replaced_row, turned, turned_row
from everrows.leasts import judge_rename, least, rename
from everrows.levels import form, levels
from everrows.made import beside, has_letter, negated
from everrows.one import are_one, compare, judge_compare
from everrows.pieces import beginnings, ends, pieces
from everrows.reached import always, judge_always, reached
from everrows.readers import answer, says
from everrows.sorts import by_sort, same_by_sort, sorts_of_row
from everrows.steps import row_of, step_answers
from tests.onemaking import MIX_A, RICH, again_and_again, join, size, some_rows
from tests.pairmaking import some_two
from tests.tablemaking import LAWFUL, WIDE, random_reader

NAMES = {"a": join("b", MIX_A), "b": ("right", "a"), "c": ("mix", (join("c", "c"), "b"))}


def all_told(reader, row):
    return [form(row), levels(row), answer(reader, row), cuts(reader, row), beginnings(reader, row), ends(reader, row), pieces(reader, row),
            sorts_of_cuts(row), next_pairs(row), ahead_pairs(row)]


class RowsThatAreOne(unittest.TestCase):
    def test_all_that_is_told_also_turned_about_and_replaced(self):
        rng = random.Random(250)
        for row in RICH + some_rows(rng, 50, 3, "abc", 14):
            reader = random_reader(rng, "abc")
            ways = [lambda x: x, turned_row, lambda x: replaced_row(x, NAMES), lambda x: turned_row(replaced_row(x, NAMES)), lambda x: replaced_row(turned_row(x), NAMES)]
            told = [all_told(reader, way(row)) for way in ways]
            for other in again_and_again(rng, row, 3, 40):
                self.assertEqual([all_told(reader, way(other)) for way in ways], told, (row, other))

    def test_rows_with_unlike_answers_are_not_one(self):
        rng, unlike = random.Random(251), 0
        rows = RICH + some_rows(rng, 40, 3, "abc")
        for table in LAWFUL + WIDE:
            reader = random_reader(rng, "abc", [table])
            for way in (lambda x: x, turned_row, lambda x: replaced_row(x, NAMES)):
                one, other = rng.choice(rows), rng.choice(rows)
                if answer(reader, way(one)) != answer(reader, way(other)):
                    unlike += 1
                    self.assertIs(are_one(one, other), False)
                    self.assertEqual(compare(one, other)[0], "differ")
                    self.assertIsNone(judge_compare(one, other, compare(one, other)))
        self.assertGreater(unlike, 20)


class ReadersOfOneAnother(unittest.TestCase):
    def test_what_they_say_of_rows(self):
        rng = random.Random(252)
        for one, other in some_two():
            letters = [letter for letter, _ in one[1]]
            rows = some_rows(rng, 4, 3, "".join(letters))
            small, back = least(one), turned(one)
            self.assertEqual([agree(one, small)[0], rename(one, small)[0], disjoint(one, negated(one))[0]], ["agree", "same", "disjoint"])
            self.assertIsNone(judge_rename(one, small, rename(small, one)) if len(small[0][0]) == 1 else judge_rename(small, one, rename(small, one)))
            self.assertEqual([always(beside(one, negated(one), "or"))[0], within(one, one)[0]], ["always", "within"])
            self.assertEqual(rename(turned(small), back)[0], "same")
            for row in rows:
                self.assertEqual([says(small, row), says(negated(one), row), says(back, turned_row(row))], [says(one, row), not says(one, row), says(one, row)])
            for s, steps in reached(one).items():
                self.assertEqual([answer(one, row_of(steps)), step_answers(one, steps)[-1], answer(back, turned_row(row_of(steps)))], [s, s, s])
                self.assertEqual(by_sort(one, sorts_of_row(row_of(steps))[0], s)[0], "row")
            names = {letter: row for letter, row in zip("xyz", rows)}
            self.assertEqual(agree(replaced(one, names), replaced(small, names))[0], "agree")
            told = agree(one, other)
            self.assertEqual(same_by_sort(one, other, "all")[0], told[0])
            self.assertEqual(agree(turned(one), turned(other))[0], told[0])
            self.assertEqual(agree(negated(one), negated(other))[0], told[0])
            if told[0] == "parts":
                row = row_of(told[1])
                self.assertIsNot(says(one, row), says(other, row))
                self.assertIsNone(judge_agree(negated(one), negated(other), told))
                self.assertIsNone(judge_agree(small, least(other), told))
            self.assertIsNone(judge_always(one, always(one)))

    def test_a_letter_that_rows_have(self):
        rng = random.Random(253)
        readers = {c: has_letter(["a", "b", "c"], c) for c in "abc"}
        both = beside(readers["a"], readers["b"], "and")
        for row in RICH + some_rows(rng, 60, 4, "abc"):
            self.assertEqual(says(both, row), says(readers["a"], row) and says(readers["b"], row))
            self.assertEqual([c for c in "abc" if says(readers[c], row)], sorted({letter for letter in levels(row)[0]}))
        self.assertEqual(rename(both, beside(readers["b"], readers["a"], "and"))[0], "same")
        self.assertLess(size(row_of(agree(readers["a"], both)[1])), 3)


if __name__ == "__main__":
    unittest.main()
