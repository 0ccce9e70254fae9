"""[8.5], [8.6], [8.7] and [8.8]: beginnings, ends and pieces, where they stand, and what all of them are answered."""

import random
import unittest
from itertools import product

from everrows.cuts import cut_rows, cuts
from everrows.one import are_one
from everrows.pieces import (all_pieces, beginnings, common_pieces, ends, has_piece, judge_all_pieces, judge_piece, pieces,
                             pieces_within)
from everrows.places import comes_ahead, letter_at
from everrows.readers import answer
from everrows.rows import is_row
from everrows.sides import ahead, behind, between, laid
from tests.cutmaking import NO_TWO_ROWS, answer_as_told, pieces_as_told
from tests.onemaking import MIX_A, again_and_again, join, places_in_finite, size, some_rows
from tests.rowmaking import ODD_VALUES, kept, nearly, random_place, random_row
from tests.tablemaking import HAS, ONE, SEES, WIDE, random_reader
from tests.test_cuts import some_of_both, some_readers, within

AB, EVER = join("a", "b"), ("right", "a")


def piece_form_as_told(reader, value):
    if type(value) is not tuple or len(value) != 3 or value[1] is None:
        return False
    return all(part is None or (is_row(part) and within(reader, part)) for part in value)


def judged_as_told(reader, row, s, value):
    """judge_piece, straight from the document."""
    if value is None:
        return ("there",) if s in pieces_as_told(reader, row)[2] else None
    if not piece_form_as_told(reader, value):
        return ("form",)
    found = answer_as_told(reader, value[1])
    if found != s:
        return ("answer", found)
    return None if are_one(join(*value), row) else ("row",)


def all_judged_as_told(reader, row, value):
    """judge_all_pieces, straight from the document."""
    if type(value) is tuple and len(value) == 2 and value[0] == "not" and piece_form_as_told(reader, value[1]):
        found = answer_as_told(reader, value[1][1])
        if found in reader[2]:
            return ("yes", found)
        return None if are_one(join(*value[1]), row) else ("row",)
    if type(value) is not tuple or len(value) != 2 or value[0] != "all" or type(value[1]) is not tuple:
        return ("form",)
    n = len(reader[0][0])
    if not all(type(s) is int and 0 <= s < n for s in value[1]) or list(value[1]) != sorted(set(value[1])):
        return ("form",)
    right = pieces_as_told(reader, row)[2]
    for word, wrong in (("lacks", right - set(value[1])), ("spare", set(value[1]) - right), ("yes", set(value[1]) - set(reader[2]))):
        if wrong:
            return (word, min(wrong))
    return None


class Answers(unittest.TestCase):
    def test_against_the_document(self):
        for reader, row in some_of_both(170):
            B, E, I = pieces_as_told(reader, row)
            self.assertEqual([kept(beginnings, reader, row), kept(ends, reader, row), kept(pieces, reader, row)],
                             [sorted(B), sorted(E), sorted(I)], (reader, row))

    def test_beginnings_and_ends_are_those_of_cuts_and_the_whole_row(self):
        for reader, row in some_of_both(171):
            whole, found = answer(reader, row), cuts(reader, row)
            self.assertEqual(beginnings(reader, row), sorted({whole} | {s for s, _ in found}))
            self.assertEqual(ends(reader, row), sorted({whole} | {t for _, t in found}))

    def test_finite_rows_against_all_their_places(self):
        rng = random.Random(172)
        for reader in some_readers():
            for row in some_rows(rng, 6, 4, "abc", 14, ("join",)):
                word = places_in_finite(row)
                n = len(word)
                found = {(i, j): answer(reader, join(*word[i:j])) for i in range(n) for j in range(i + 1, n + 1)}
                self.assertEqual(beginnings(reader, row), sorted({found[0, j] for j in range(1, n + 1)}))
                self.assertEqual(ends(reader, row), sorted({found[i, n] for i in range(n)}))
                self.assertEqual(pieces(reader, row), sorted(set(found.values())))

    def test_pieces_of_beginnings_and_between_places_are_there(self):
        rng = random.Random(173)
        for reader, row in some_of_both(174, 2):
            found = pieces(reader, row)
            for pair in rng.sample(cuts(reader, row), min(2, len(cuts(reader, row)))):
                u, v = cut_rows(reader, row, pair)
                self.assertLessEqual(set(pieces(reader, u)) | set(pieces(reader, v)), set(found))
            for _ in range(3):
                one, other = random_place(rng, row, 9), random_place(rng, row, 9)
                for part in (ahead(row, one), behind(row, one), letter_at(row, one), between(row, one, other) if comes_ahead(row, one, other) else None):
                    if part is not None:
                        self.assertIn(answer(reader, part), found)

    def test_rows_that_are_one(self):
        rng = random.Random(175)
        for reader, row in some_of_both(176, 2, 3):
            for other in again_and_again(rng, row, 2, 60):
                self.assertEqual([beginnings(reader, other), ends(reader, other), pieces(reader, other)],
                                 [beginnings(reader, row), ends(reader, row), pieces(reader, row)])

    def test_copies_as_many_as_there_are_answers(self):
        reader = (WIDE[6], (("a", 1),), (5,))
        self.assertEqual([beginnings(reader, EVER), ends(reader, EVER), pieces(reader, EVER)], [[0, 1, 2, 3, 4, 5], [5], [0, 1, 2, 3, 4, 5]])
        self.assertEqual([beginnings(reader, ("left", "a")), ends(reader, ("left", "a"))], [[5], [0, 1, 2, 3, 4, 5]])

    def test_the_lists_are_new_ones(self):
        for call in (beginnings, ends, pieces):
            call(SEES, AB).clear()
            self.assertNotEqual(call(SEES, AB), [])
        common_pieces(SEES, AB, AB).clear()
        self.assertEqual(common_pieces(SEES, AB, AB), [0, 1])


class HasPiece(unittest.TestCase):
    def test_told_just_if_there_is_one_and_judged_right(self):
        told = set()
        for reader, row in some_of_both(177):
            found = pieces(reader, row)
            for s in range(len(reader[0][0])):
                value = kept(has_piece, reader, row, s)
                self.assertIs(value is not None, s in found)
                self.assertIs(kept(judge_piece, reader, row, s, value), None, (reader, row, s, value))
                if value is not None:
                    u, piece, v = value
                    told.add((u is None, v is None))
                    self.assertEqual(answer_as_told(reader, piece), s)
                    self.assertIs(are_one(join(u, piece, v), row), True)
        self.assertEqual(len(told), 4)

    def test_faults_in_their_order(self):
        for row, s, value, told in [
                (AB, 0, ("a", "b", None), None), (AB, 0, None, ("there",)), (AB, 1, None, ("there",)), ("a", 0, None, None), ("b", 1, None, None),
                (AB, 1, (None, AB, None), None), (AB, 1, (None, "a", "b"), None), (AB, 1, ("a", "b", None), ("answer", 0)), (AB, 1, (None, "a", None), ("row",)),
                (AB, 1, ("b", "a", None), ("row",)), (AB, 1, ("b", "a"), ("form",)), (AB, 1, ["a", "b", None], ("form",)), (AB, 1, (None, None, None), ("form",)),
                (AB, 1, (None, "c", "b"), ("form",)), (AB, 1, ("c", "a", "b"), ("form",)), (AB, 1, (None, "a", "c"), ("form",)), (AB, 1, (False, "a", "b"), ("form",)),
                (AB, 1, (None, "a", ()), ("form",)), (AB, 0, (None, "a", "c"), ("form",)), (EVER, 1, (None, EVER, None), None), (EVER, 1, (EVER, "a", None), ("row",)),
                (EVER, 1, (("join", ("a", "a")), "a", EVER), None), (EVER, 0, None, None), (MIX_A, 1, (MIX_A, "a", MIX_A), None), (MIX_A, 1, (None, "a", MIX_A), ("row",)),
                (MIX_A, 1, (None, join(MIX_A, "a"), MIX_A), None), (MIX_A, 1, (MIX_A, join("a", ["mix", ("a",)]), None), ("form",))]:
            self.assertEqual(kept(judge_piece, SEES, row, s, value), told, (row, s, value))

    def test_judged_against_the_document(self):
        rng, found = random.Random(178), set()
        for reader, row in some_of_both(179, 1, 3):
            n = len(reader[0][0])
            for s in {rng.choice(pieces(reader, row)), rng.randrange(n)}:
                u, piece, v = has_piece(reader, row, s) or (None, row, None)
                values = [None, (u, piece, v), [u, piece, v], (v, piece, u), (u, row, v), (u, piece), (u, piece, v, None), (u, None, v), (u, piece, "d")]
                values += rng.sample(list(nearly((u, piece, v))), 8) + rng.sample(ODD_VALUES, 4)
                values += [(None,) + value for value in rng.sample(NO_TWO_ROWS, 5) if isinstance(value, tuple)]
                values += [tuple(rng.choice((None, random_row(rng, 1))) for _ in range(3)) for _ in range(5)]
                for value in values:
                    told = kept(judge_piece, reader, row, s, value)
                    self.assertEqual(told, judged_as_told(reader, row, s, value), (reader, row, s, value))
                    found.add(told[0] if told else None)
        self.assertEqual(found, {None, "form", "there", "answer", "row"})


class AllPieces(unittest.TestCase):
    def test_one_of_both_and_judged_right(self):
        told = set()
        for reader, row in some_of_both(180):
            found = pieces(reader, row)
            for one in (reader, (reader[0], reader[1], tuple(found)), (reader[0], reader[1], ())):
                value = kept(all_pieces, one, row)
                self.assertEqual(value[0], "all" if set(found) <= set(one[2]) else "not")
                self.assertIs(kept(judge_all_pieces, one, row, value), None)
                if value[0] == "all":
                    self.assertEqual(value[1], tuple(found))
                told.add(value[0])
        self.assertEqual(told, {"all", "not"})

    def test_faults_in_their_order(self):
        every, none = (SEES[0], SEES[1], (0, 1)), (SEES[0], SEES[1], ())
        for reader, row, value, told in [
                (every, AB, ("all", (0, 1)), None), (every, AB, ("all", ()), ("lacks", 0)), (every, AB, ("all", (0,)), ("lacks", 1)), (every, "a", ("all", (0, 1)), ("spare", 0)),
                (SEES, AB, ("all", (0, 1)), ("yes", 0)), (none, AB, ("all", (0, 1)), ("yes", 0)), (SEES, "a", ("all", (0,)), ("lacks", 1)), (none, "b", ("all", (0, 1)), ("spare", 1)),
                (SEES, AB, ("all", (1, 0)), ("form",)), (SEES, AB, ("all", (0, 0)), ("form",)), (SEES, AB, ("all", [0, 1]), ("form",)), (SEES, AB, ["all", (0, 1)], ("form",)),
                (SEES, AB, ("all", (False, True)), ("form",)), (SEES, AB, ("all", (0, 2)), ("form",)), (SEES, AB, ("all", (-1, 0)), ("form",)), (SEES, AB, ("all", 0), ("form",)),
                (SEES, AB, ("all", (0, 1), ()), ("form",)), (SEES, AB, ("not", ("a", "b", None)), None), (SEES, AB, ("not", (None, "a", "b")), ("yes", 1)),
                (SEES, AB, ("not", (None, "b", "a")), ("row",)), (SEES, AB, ("not", ("a", "b")), ("form",)), (SEES, AB, ("not", (None, None, None)), ("form",)),
                (SEES, AB, ("not", ["a", "b", None]), ("form",)), (SEES, AB, ("not", ("c", "b", None)), ("form",)), (SEES, AB, ("yes", ("a", "b", None)), ("form",)),
                (SEES, "a", ("not", (None, "b", None)), ("row",)), (SEES, "a", ("not", (None, "a", None)), ("yes", 1)), (SEES, AB, None, ("form",)), (SEES, AB, ("not", None), ("form",))]:
            self.assertEqual(kept(judge_all_pieces, reader, row, value), told, (row, value))

    def test_judged_against_the_document(self):
        rng, found = random.Random(181), set()
        for reader, row in some_of_both(182, 1, 3):
            n, right = len(reader[0][0]), all_pieces(reader, row)
            pieces_there = [has_piece(reader, row, s) for s in pieces(reader, row)]
            values = [right, list(right)] + rng.sample(list(nearly(right)), 8) + rng.sample(ODD_VALUES, 3)
            values += [("not", piece) for piece in pieces_there] + [("not", tuple(rng.choice((None, random_row(rng, 1))) for _ in range(3))) for _ in range(3)]
            values += [("all", tuple(s for s in range(n) if rng.random() < 0.7)) for _ in range(5)] + [("all", tuple(pieces(reader, row))), ("all", right[1])]
            for value in values:
                told = kept(judge_all_pieces, reader, row, value)
                self.assertEqual(told, all_judged_as_told(reader, row, value), (reader, row, value))
                found.add(told[0] if told else None)
        self.assertEqual(found, {None, "form", "lacks", "spare", "yes", "row"})


class TwoRows(unittest.TestCase):
    def test_within_and_common(self):
        rng, told = random.Random(183), set()
        for reader in some_readers():
            rows = some_rows(rng, 4, 3, "abc") + ["a", EVER]
            for one, other in product(rows, rows):
                mine, others = pieces_as_told(reader, one)[2], pieces_as_told(reader, other)[2]
                value = kept(pieces_within, reader, one, other)
                self.assertEqual(value, ("parts", min(mine - others)) if mine - others else ("within",))
                self.assertEqual(kept(common_pieces, reader, one, other), sorted(mine & others))
                told.add(value[0])
        self.assertEqual(told, {"parts", "within"})

    def test_a_piece_is_within(self):
        rng = random.Random(184)
        for reader, row in some_of_both(185, 1):
            _, piece, _ = has_piece(reader, row, rng.choice(pieces(reader, row)))
            self.assertEqual(pieces_within(reader, piece, row), ("within",))
            self.assertEqual(common_pieces(reader, piece, row), pieces(reader, piece))

    def test_no_common_answer(self):
        self.assertEqual([common_pieces(SEES, "a", "b"), pieces_within(SEES, "a", "b")], [[], ("parts", 1)])
        self.assertEqual(pieces((ONE, (("a", 0),), ()), MIX_A), [0])


class Greatest(unittest.TestCase):
    def test_six_answers_over_five_letters(self):
        rng = random.Random(186)
        for table in WIDE[-7:]:
            reader = random_reader(rng, "abcde", [table])
            for row in [row for row in some_rows(rng, 30, 6, "abcde") if size(row) > 16][:3]:
                for s in pieces(reader, row):
                    self.assertIs(judge_piece(reader, row, s, has_piece(reader, row, s)), None)
                self.assertIs(judge_all_pieces(reader, row, all_pieces(reader, row)), None)

    def test_rows_of_two_hundred_in_values(self):
        x = join("a", "b", "a", "a", "b", "a")
        row = ("right", join(x, ("left", x), ("mix", (x, "b"))))
        long = laid([row[1]] * 8)
        self.assertGreater(size(long), 180)
        reader = (HAS, (("a", 1), ("b", 0)), (1,))
        self.assertIs(judge_piece(reader, row, 1, (long, long, row)), None)
        self.assertEqual(judge_piece(reader, row, 1, (long, long, long)), ("row",))
        self.assertEqual(judge_all_pieces(reader, row, ("not", (long, "b", row))), ("row",))


if __name__ == "__main__":
    unittest.main()
