"""[8.1], [8.2], [8.3] and [8.4]: cuts, their rows and sorts, first and last letters, letters ahead of letters."""

import random
import unittest
from itertools import product

from everrows.cuts import (ahead_pairs, cut_of_sort, cut_rows, cuts, first_letter, judge_cut, judge_cut_of_sort, last_letter,
                           next_pairs, sorts_of_cuts)
from everrows.errors import TooMany
from everrows.one import are_one
from everrows.places import comes_ahead, first_place, last_place, letter_at, next_place, places
from everrows.readers import answer
from everrows.rows import is_row
from everrows.sides import ahead, behind, laid
from tests.cutmaking import NO_TWO_ROWS, answer_as_told, cuts_as_told, next_pairs_as_told, sorts_as_told
from tests.onemaking import MIX_A, RICH, again_and_again, join, most_parts, places_in_finite, size, some_rows
from tests.rowmaking import ODD_VALUES, kept, nearly, random_place, random_row
from tests.tablemaking import LAWFUL, SEES, WIDE, random_reader

SORTS = ("first", "gap", "jump", "last")
EVER, BACK = ("right", "a"), ("left", "a")


def some_readers(letters="abc"):
    rng = random.Random(150)
    return [random_reader(rng, letters, [table]) for table in LAWFUL + WIDE]


def some_of_both(seed, many=3, deep=4):
    """Readers with rows of their letters."""
    rng = random.Random(seed)
    for reader in some_readers():
        for row in some_rows(rng, many, deep, "abc") + rng.sample(RICH, 3):
            yield reader, row


def judged_as_told(reader, row, pair, value):
    """judge_cut, straight from the document."""
    there = pair in cuts_as_told(reader, row)
    if value is None:
        return ("there",) if there else None
    if type(value) is not tuple or len(value) != 2 or not all(is_row(part) and within(reader, part) for part in value):
        return ("form",)
    answers = (answer_as_told(reader, value[0]), answer_as_told(reader, value[1]))
    if answers != pair:
        return ("answer",) + answers
    return None if are_one(join(*value), row) else ("row",)


def within(reader, row):
    if isinstance(row, str):
        return row in dict(reader[1])
    return all(within(reader, part) for part in ((row[1],) if row[0] in ("right", "left") else row[1]))


def sort_judged_as_told(row, sort, value):
    if value is None:
        return ("there",) if sort in sorts_as_told(row)[2] else None
    if type(value) is not tuple or len(value) != 2 or not all(map(is_row, value)):
        return ("form",)
    found = {(True, True): "jump", (True, False): "last", (False, True): "first", (False, False): "gap"}[
        last_place(value[0]) is not None, first_place(value[1]) is not None]
    if found != sort:
        return ("sort", found)
    return None if are_one(join(*value), row) else ("row",)


class Cuts(unittest.TestCase):
    def test_against_the_document(self):
        for reader, row in some_of_both(151):
            self.assertEqual(kept(cuts, reader, row), sorted(cuts_as_told(reader, row)), (reader, row))

    def test_finite_rows_against_all_their_places(self):
        rng = random.Random(152)
        for reader in some_readers():
            for row in some_rows(rng, 6, 4, "abc", 14, ("join",)):
                word = places_in_finite(row)
                pairs = {(answer(reader, join(*word[:k])), answer(reader, join(*word[k:]))) for k in range(1, len(word))}
                self.assertEqual(cuts(reader, row), sorted(pairs))

    def test_the_cuts_beside_places_are_there(self):
        rng = random.Random(153)
        for reader, row in some_of_both(154):
            found = cuts(reader, row)
            for _ in range(4):
                place = random_place(rng, row, 9)
                one, other, letter = ahead(row, place), behind(row, place), letter_at(row, place)
                if one is not None:
                    self.assertIn((answer(reader, one), answer(reader, join(letter, other))), found)
                if other is not None:
                    self.assertIn((answer(reader, join(one, letter)), answer(reader, other)), found)

    def test_rows_that_are_one(self):
        rng = random.Random(155)
        for reader, row in some_of_both(156, 2, 3):
            for other in again_and_again(rng, row, 2, 60):
                self.assertEqual(cuts(reader, other), cuts(reader, row))

    def test_copies_as_many_as_there_are_answers(self):
        reader = (WIDE[6], (("a", 1),), (5,))
        self.assertEqual(cuts(reader, EVER), [(k, 5) for k in range(5)])
        self.assertEqual(cuts(reader, BACK), [(5, k) for k in range(5)])
        self.assertEqual(cuts(reader, ("right", join("a", "a"))), [(k, 5) for k in range(5)])

    def test_the_list_is_a_new_one(self):
        cuts(SEES, EVER).clear()
        sorts_of_cuts(EVER).clear()
        next_pairs(EVER).clear()
        ahead_pairs(EVER).clear()
        self.assertEqual([cuts(SEES, EVER), sorts_of_cuts(EVER), next_pairs(EVER), ahead_pairs(EVER)],
                         [[(1, 1)], ["jump"], [("a", "a")], [("a", "a")]])


class CutRows(unittest.TestCase):
    def test_told_just_if_there_is_one_and_judged_right(self):
        told = set()
        for reader, row in some_of_both(157, 2):
            found, n = cuts(reader, row), len(reader[0][0])
            for pair in product(range(n), repeat=2):
                value = kept(cut_rows, reader, row, pair)
                told.add(value is None)
                self.assertIs(value is not None, pair in found)
                self.assertIs(kept(judge_cut, reader, row, pair, value), None)
                if value is not None:
                    self.assertIs(type(value), tuple)
                    self.assertEqual(tuple(answer_as_told(reader, part) for part in value), pair)
                    self.assertIs(are_one(join(*value), row), True)
        self.assertEqual(told, {True, False})

    def test_faults_in_their_order(self):
        ab, mix = join("a", "b"), ("mix", ("a", "b"))
        for row, pair, value, told in [
                (ab, (1, 0), ("a", "b"), None), (ab, (1, 0), None, ("there",)), (ab, (0, 1), None, None), (ab, (1, 0), ("a", "c"), ("form",)),
                (ab, (1, 0), ("b", "a"), ("answer", 0, 1)), (ab, (1, 0), (join("a", "a"), "b"), ("row",)), (ab, (0, 1), ("a", "b"), ("answer", 1, 0)),
                (ab, (0, 1), ("b", "a"), ("row",)), ("a", (1, 1), None, None), ("a", (1, 1), ("a", "a"), ("row",)), (EVER, (1, 1), ("a", EVER), None),
                (EVER, (1, 1), (join("a", "a"), EVER), None), (EVER, (1, 1), (EVER, "a"), ("row",)), (EVER, (1, 1), ("a", BACK), ("row",)),
                (mix, (1, 1), (mix, mix), None), (mix, (1, 1), (mix, join("a", mix)), None), (mix, (1, 1), (join(mix, "b"), mix), None),
                (mix, (1, 1), (join(mix, "b"), join("a", mix)), ("row",)), (mix, (0, 1), None, None), (mix, (1, 1), None, ("there",)),
                (mix, (1, 1), (join(mix, "a"), mix, mix), ("form",)), (ab, (1, 0), ["a", "b"], ("form",)), (ab, (1, 0), ("a",), ("form",)),
                (ab, (1, 0), (("join", ["a", "b"]), "b"), ("form",)), (ab, (1, 0), (("join", ("a", "d")), "b"), ("form",))]:
            self.assertEqual(kept(judge_cut, SEES, row, pair, value), told, (row, value))

    def test_judged_against_the_document(self):
        rng, found = random.Random(158), set()
        for reader, row in some_of_both(159, 1, 3):
            n = len(reader[0][0])
            pairs = rng.sample(sorted(cuts_as_told(reader, row)) or [(0, 0)], 1) + [(rng.randrange(n), rng.randrange(n))]
            for pair in pairs:
                right = cut_rows(reader, row, pair) or ("a", row)
                values = [None, right, right[::-1], list(right), right + ("a",), (row, right[1]), (right[0], row), (right[0], join(right[1], "a"))]
                values += rng.sample(list(nearly(right)), 8) + rng.sample(NO_TWO_ROWS, 4) + rng.sample(ODD_VALUES, 4)
                values += [tuple(random_row(rng, 2) for _ in range(2)) for _ in range(4)] + [(right[0], ("right", "d"))]
                for value in values:
                    told = kept(judge_cut, reader, row, pair, value)
                    self.assertEqual(told, judged_as_told(reader, row, pair, value), (reader, row, pair, value))
                    found.add(told[0] if told else None)
        self.assertEqual(found, {None, "form", "there", "answer", "row"})


class SortsOfCuts(unittest.TestCase):
    def test_each_sort_alone_and_none(self):
        for row, told in [
                ("a", []), (join("a", "b"), ["jump"]), (EVER, ["jump"]), (("right", EVER), ["first", "jump"]), (("left", EVER), ["first", "jump"]),
                (("right", BACK), ["jump", "last"]), (join(EVER, BACK), ["gap", "jump"]), (join(BACK, EVER), ["jump"]), (join("a", BACK), ["jump", "last"]),
                (join(EVER, "a"), ["first", "jump"]), (MIX_A, ["first", "gap", "last"]), (("mix", (EVER,)), ["first", "gap", "jump"]),
                (("mix", (BACK,)), ["gap", "jump", "last"]), (("mix", (("right", ("left", MIX_A)),)), ["first", "gap", "last"]), (join(MIX_A, "a"), ["first", "gap", "last"]),
                (("mix", (join(EVER, BACK), ("mix", (join(BACK, EVER),)))), ["first", "gap", "jump", "last"])]:
            self.assertEqual(kept(sorts_of_cuts, row), told, row)

    def test_against_the_document(self):
        rng, seen = random.Random(160), set()
        for row in RICH + some_rows(rng, 300, 4, "abc"):
            told = kept(sorts_of_cuts, row)
            self.assertEqual(told, sorted(sorts_as_told(row)[2]), row)
            for sort in SORTS:
                value = kept(cut_of_sort, row, sort)
                self.assertIs(value is not None, sort in told)
                self.assertIs(kept(judge_cut_of_sort, row, sort, value), None)
                seen.add((sort, value is None))
                if value is not None:
                    u, v = value
                    self.assertEqual((last_place(u) is not None, first_place(v) is not None), (sort in ("jump", "last"), sort in ("jump", "first")))
                    self.assertIs(are_one(join(u, v), row), True)
            for other in again_and_again(rng, row, 1):
                self.assertEqual(sorts_of_cuts(other), told)
        self.assertEqual(len(seen), 8)

    def test_faults_in_their_order(self):
        dense = ("mix", ("b",))
        for row, sort, value, told in [
                (EVER, "jump", ("a", EVER), None), (EVER, "jump", None, ("there",)), (EVER, "gap", None, None), (EVER, "gap", ("a", EVER), ("sort", "jump")),
                (EVER, "jump", ("a", ["right", "a"]), ("form",)), (EVER, "jump", ("z", EVER), ("row",)), (EVER, "jump", ("a", BACK), ("sort", "last")),
                (dense, "gap", (dense, dense), None), (dense, "gap", (dense, join("b", dense)), ("sort", "first")), (dense, "first", (dense, join("b", dense)), None),
                (dense, "last", (join(dense, "b"), dense), None), (dense, "last", (join(dense, "z"), dense), ("row",)), (dense, "jump", None, None),
                (dense, "jump", (join(dense, "b"), join("b", dense)), ("row",)), (dense, "gap", (dense,), ("form",)), (dense, "gap", [dense, dense], ("form",)),
                (dense, "gap", (dense, None), ("form",)), ("a", "jump", None, None), ("a", "jump", ("a", "a"), ("row",))]:
            self.assertEqual(kept(judge_cut_of_sort, row, sort, value), told, (row, sort, value))

    def test_judged_against_the_document(self):
        rng, found = random.Random(161), set()
        for row in RICH + some_rows(rng, 60, 3):
            for sort in SORTS:
                right = cut_of_sort(row, sort) or ("a", row)
                values = [None, right, right[::-1], list(right), right + ("a",), (right[0], join("a", right[1]))]
                values += rng.sample(list(nearly(right)), 6) + rng.sample(NO_TWO_ROWS, 4) + rng.sample(ODD_VALUES, 4)
                for value in values + [tuple(random_row(rng, 2) for _ in range(2)) for _ in range(3)]:
                    told = kept(judge_cut_of_sort, row, sort, value)
                    self.assertEqual(told, sort_judged_as_told(row, sort, value), (row, sort, value))
                    found.add(told[0] if told else None)
        self.assertEqual(found, {None, "form", "there", "sort", "row"})


class LettersOfPlaces(unittest.TestCase):
    def test_first_and_last_letters(self):
        rng = random.Random(162)
        for row in RICH + some_rows(rng, 200, 4, "abc"):
            first, last, _ = next_pairs_as_told(row)
            self.assertEqual([kept(first_letter, row), kept(last_letter, row)], [first, last])
            one, other = first_place(row), last_place(row)
            self.assertEqual([one and letter_at(row, one), other and letter_at(row, other)] if size(row) > 1 else [row, row], [first, last])
        self.assertEqual([first_letter("q"), last_letter("q"), first_letter(MIX_A), last_letter(EVER)], ["q", "q", None, None])

    def test_next_pairs(self):
        rng = random.Random(163)
        for row in RICH + some_rows(rng, 200, 4, "abc"):
            told = kept(next_pairs, row)
            self.assertEqual(told, sorted(next_pairs_as_told(row)[2]))
            if size(row) < 10:
                some = [(place, next_place(row, place)) for place in places(row, 2, max(most_parts(row), 1))]
                self.assertEqual(told, sorted({(letter_at(row, one), letter_at(row, other)) for one, other in some if other is not None}))

    def test_ahead_pairs(self):
        rng, looked_at = random.Random(164), 0
        for row in RICH + some_rows(rng, 200, 3, "abc"):
            told = kept(ahead_pairs, row)
            for other in again_and_again(rng, row, 1):
                self.assertEqual(ahead_pairs(other), told)
            try:
                some = places(row, 2, most_parts(row) + 1) if size(row) < 9 else []
            except TooMany:
                continue
            if some:
                pairs = {(letter_at(row, one), letter_at(row, other)) for one in some for other in some if comes_ahead(row, one, other)}
                self.assertEqual(told, sorted(pairs), row)
                looked_at += 1
        self.assertGreater(looked_at, 100)

    def test_some(self):
        for row, following, before in [
                ("a", [], []), (join("b", "a", "b"), [("a", "b"), ("b", "a")], [("a", "b"), ("b", "a"), ("b", "b")]), (MIX_A, [], [("a", "a")]),
                (join(EVER, "b"), [("a", "a")], [("a", "a"), ("a", "b")]), (join("b", EVER), [("a", "a"), ("b", "a")], [("a", "a"), ("b", "a")]),
                (("left", join("a", "b")), [("a", "b"), ("b", "a")], [("a", "a"), ("a", "b"), ("b", "a"), ("b", "b")]),
                (("mix", (join("c", "a"), "b")), [("c", "a")], [(c, d) for c in "abc" for d in "abc"]), (join(join("a", "b"), join("c", "d")),
                 [("a", "b"), ("b", "c"), ("c", "d")], [("a", "b"), ("a", "c"), ("a", "d"), ("b", "c"), ("b", "d"), ("c", "d")])]:
            self.assertEqual([next_pairs(row), ahead_pairs(row)], [following, before], row)


class Greatest(unittest.TestCase):
    def test_six_answers_over_five_letters(self):
        rng = random.Random(165)
        for table in WIDE[-7:]:
            reader = random_reader(rng, "abcde", [table])
            for row in [row for row in some_rows(rng, 30, 6, "abcde") if size(row) > 16][:3]:
                found = cuts(reader, row)
                for pair in found:
                    self.assertIs(judge_cut(reader, row, pair, cut_rows(reader, row, pair)), None)

    def test_rows_of_two_hundred_in_values(self):
        x = join("a", "b", "a", "a", "b", "c")
        row = ("right", join(x, ("left", x), ("mix", (x, "a"))))
        reader = random_reader(random.Random(166), "abc", [WIDE[3]])
        long = laid([row[1]] * 8)
        self.assertGreater(size(long), 180)
        pair = (answer(reader, long), answer(reader, row))
        self.assertIs(judge_cut(reader, row, pair, (long, row)), None)
        self.assertEqual(judge_cut(reader, row, pair, (long, ("right", laid([row[1], row[1]])))), None)
        self.assertEqual(judge_cut_of_sort(row, "first", (long, row)), None)
        deep = "a"
        for k in range(5):
            deep = ("right", join(*"abcab" * 7, deep))
        self.assertEqual(judge_cut_of_sort(row, "first", (deep, row)), ("row",))
        self.assertEqual(judge_cut_of_sort(deep, "first", (deep, deep)), ("row",))


if __name__ == "__main__":
    unittest.main()
