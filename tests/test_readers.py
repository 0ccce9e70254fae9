"""[3.6] and [3.7]: readers, how they answer rows, and traces; and that rows that are one ([1.2]) are answered alike."""

import random
import unittest

from everrows.errors import BadText, UnknownLetter
from everrows.places import letter_at
from everrows.readers import answer, is_reader, judge_trace, reader_letters, says, trace
from everrows.rows import copies, joined, row_letters
from everrows.sides import ahead, behind, laid, put_at
from everrows.texts import read_row, row_text
from tests.rowmaking import ODD_VALUES, kept, nearly, random_place, random_row
from tests.tablemaking import BENT, BROKEN, FIRST, HAS, LAWFUL, ONE, SEES, SIX, TURN, mixed_as_told, random_reader

ROW = ("join", ("b", ("right", ("mix", ("a", "b")))))


def answer_as_told(reader, row):
    """[3.7], straight from the document."""
    table, letters, _ = reader
    if isinstance(row, str):
        return dict(letters)[row]
    word, told = row
    if word in ("right", "left"):
        return table[1 if word == "right" else 2][answer_as_told(reader, told)]
    answers = [answer_as_told(reader, part) for part in told]
    if word == "mix":
        return mixed_as_told(table, answers)
    while len(answers) > 1:
        answers[:2] = [table[0][answers[0]][answers[1]]]
    return answers[0]


def trace_as_told(reader, row):
    parts = () if isinstance(row, str) else row[1] if row[0] in ("join", "mix") else (row[1],)
    return [pair for part in parts for pair in trace_as_told(reader, part)] + [(row, answer_as_told(reader, row))]


def reader_as_told(value):
    """[3.6], straight from the document, for values whose table, if it is one, is HAS or unlawful."""
    if type(value) is not tuple or len(value) != 3 or repr(value[0]) != repr(HAS):
        return False
    _, letters, yes = value
    if type(letters) is not tuple or not 1 <= len(letters) <= 5 or type(yes) is not tuple:
        return False
    for pair in letters:
        if type(pair) is not tuple or len(pair) != 2 or type(pair[0]) is not str or len(pair[0]) != 1:
            return False
        if not "a" <= pair[0] <= "z" or type(pair[1]) is not int or pair[1] not in (0, 1):
            return False
    names = [pair[0] for pair in letters]
    return names == sorted(set(names)) and repr(yes) in ("()", "(0,)", "(1,)", "(0, 1)")


class AreReaders(unittest.TestCase):
    def test_of_each_lawful_table(self):
        for table in LAWFUL:
            last = len(table[0]) - 1
            for letters in ((("a", 0),), (("a", last), ("z", 0)), tuple((letter, 0) for letter in "bdfhj")):
                for yes in ((), (0,), (last,), tuple(range(last + 1))):
                    self.assertIs(kept(is_reader, (table, letters, yes)), True)

    def test_tables_that_are_not_lawful(self):
        for table in [TURN, BENT] + [broken[0] for broken in BROKEN]:
            self.assertIs(kept(is_reader, (table, (("a", 0),), ())), False)

    def test_what_is_none(self):
        a = (("a", 0),)
        for value in ODD_VALUES + (
                HAS, (HAS,), (HAS, a), (HAS, a, (), ()), [HAS, a, ()], (list(HAS), a, ()), (HAS[:3], a, ()), (HAS, (), ()),
                (HAS, "a", ()), (HAS, ("a", 0), ()), (HAS, [("a", 0)], ()), (HAS, (["a", 0],), ()), (HAS, (("a",),), ()),
                (HAS, (("a", 0, 0),), ()), (HAS, (("A", 0),), ()), (HAS, (("ab", 0),), ()), (HAS, ((0, "a"),), ()),
                (HAS, (("a", 2),), ()), (HAS, (("a", -1),), ()), (HAS, (("a", True),), ()), (HAS, (("a", False),), ()),
                (HAS, (("a", None),), ()), (HAS, (("b", 0), ("a", 0)), ()), (HAS, (("a", 0), ("a", 0)), ()),
                (HAS, (("a", 0), ("a", 1)), ()), (HAS, {"a": 0}, ()), (HAS, tuple((letter, 0) for letter in "abcdef"), ()),
                (HAS, a, []), (HAS, a, [0]), (HAS, a, (2,)), (HAS, a, (-1,)), (HAS, a, (1, 0)), (HAS, a, (0, 0)),
                (HAS, a, (True,)), (HAS, a, (False, 1)), (HAS, a, (0, True)), (HAS, a, None), (HAS, a, 0), (HAS, a, ((0,),)),
                (HAS, ((("a",), 0),), ()), (HAS, (([], 0),), ()), (HAS, ((True, 0),), ())):
            self.assertIs(kept(is_reader, value), False, value)

    def test_one_change(self):
        for reader in (SEES, (HAS, tuple((letter, 0) for letter in "abcde"), (0, 1)), (HAS, (("z", 1),), ())):
            self.assertIs(is_reader(reader), True)
            for value in nearly(reader[1:]):
                value = (HAS, *value) if isinstance(value, tuple) else [HAS, *value]
                self.assertIs(kept(is_reader, value), reader_as_told(value), value)

    def test_letters(self):
        self.assertEqual([kept(reader_letters, SEES), reader_letters((ONE, (("c", 0),), ()))], [["a", "b"], ["c"]])
        reader_letters(SEES).append("c")
        self.assertEqual(reader_letters(SEES), ["a", "b"])


class Answers(unittest.TestCase):
    def test_each_dealing(self):
        reader = (FIRST, (("a", 1), ("b", 2), ("c", 0)), (1,))
        for row, told in [("a", 1), (("join", ("b", "a", "c")), 2), (("right", "b"), 2), (("left", "b"), 0), (("mix", ("a",)), 0),
                          (("join", (("right", "a"), ("left", "b"))), 1), (("mix", ("b", "a")), 0)]:
            self.assertEqual(kept(answer, reader, row), told)
            self.assertIs(kept(says, reader, row), told == 1)

    def test_a_join_from_the_left_and_mixes_of_lots(self):
        reader = (LAWFUL[5], (("a", 0), ("b", 1), ("c", 2)), (2,))
        self.assertEqual([answer(reader, ("mix", tuple(rows))) for rows in ("a", "b", "bab", "ca", "cbcb", "cba")],
                         [0, 1, 2, 2, 2, 2])

    def test_against_the_document(self):
        rng = random.Random(40)
        for _ in range(600):
            reader, row = random_reader(rng), random_row(rng, 4)
            s = answer_as_told(reader, row)
            self.assertEqual(kept(answer, reader, row), s)
            self.assertIs(kept(says, reader, row), s in reader[2])
            self.assertEqual(kept(trace, reader, row), trace_as_told(reader, row))

    def test_the_first_letter_that_lacks(self):
        for row, letter in [("c", "c"), (("join", ("a", "z", "d")), "z"), (("right", ("join", ("b", "c"))), "c"),
                            (("mix", (("left", "d"), "c")), "d"), (("join", (("join", ("a", "b")), ("mix", ("b", "e")), "c")), "e")]:
            for call in (answer, says, trace):
                with self.assertRaises(UnknownLetter) as caught:
                    kept(call, SEES, row)
                self.assertEqual(vars(caught.exception), {"letter": letter})
        rng = random.Random(41)
        for _ in range(200):
            row = random_row(rng, 4, letters="abcd")
            lacking = [sign for sign in row_text(row) if sign in "cd"]
            if lacking:
                with self.assertRaises(UnknownLetter) as caught:
                    answer(SEES, row)
                self.assertEqual(caught.exception.letter, lacking[0])

    def test_a_row_within_many_rows(self):
        row = "a"
        for _ in range(3000):
            row = ("right", row)
        self.assertEqual([answer(SEES, row), says(SEES, row), len(trace(SEES, row))], [1, True, 3001])


class Traces(unittest.TestCase):
    def test_each_part_as_often_as_it_stands_there(self):
        row = ("join", ("a", ("mix", ("a", "a"))))
        self.assertEqual(trace(SEES, row), [("a", 1), ("a", 1), ("a", 1), (row[1][1], 1), (row, 1)])

    def test_the_list_is_a_new_one(self):
        trace(SEES, ROW).clear()
        self.assertEqual(len(trace(SEES, ROW)), 6)


class Judged(unittest.TestCase):
    def test_the_right_list_and_a_tuple(self):
        rng = random.Random(42)
        for _ in range(60):
            reader, row = random_reader(rng), random_row(rng, 4)
            told = trace(reader, row)
            self.assertIsNone(kept(judge_trace, reader, row, told))
            self.assertIsNone(kept(judge_trace, reader, row, tuple(told)))

    def test_form(self):
        for value in (None, True, 0, "", "a", {}, {"a": 1}, ("a", 1), [("a",)], [("a", 1, 1)], [["a", 1]], (["a", 1],),
                      [("a", True)], [("a", False)], [("a", 2)], [("a", -1)], [("a", None)], [("A", 1)], [("ab", 1)], [(1, "a")],
                      [(("right", ["a"]), 1)], [(("join", ("a",)), 1)], [("a", 1), None], [("a", 1), ("b", "1")], [()], ((),),
                      [("a", (1,))], [("b", 0), ("a", 0), ("q", 2)]):
            self.assertEqual(kept(judge_trace, SEES, ("right", "a"), value), ("form",), value)
        for value in ODD_VALUES:
            told = ("parts", 0) if value in ((), []) else ("form",)
            self.assertEqual(kept(judge_trace, SEES, "a", value), told, value)

    def test_parts_ahead_of_answers(self):
        right = trace(SEES, ROW)
        for value, told in [
                ([], ("parts", 0)), ((), ("parts", 0)), (right[:1], ("parts", 1)), (right[:5], ("parts", 5)),
                (right + [("a", 1)], ("parts", 6)), (right[1:], ("parts", 0)), ([("z", 0)] + right[1:], ("parts", 0)),
                ([("b", 1)] + right[1:5], ("parts", 5)), ([("b", 1), ("a", 0)] + right[2:] + [("q", 0)], ("parts", 6)),
                (right[:2] + [("a", 0)] + right[3:], ("parts", 2)), (right[:5] + [("b", 1)], ("parts", 5)),
                (right[:2] + right[3:], ("parts", 2))]:
            self.assertEqual(kept(judge_trace, SEES, ROW, value), told, value)
            self.assertEqual(kept(judge_trace, SEES, ROW, tuple(value)), told, value)

    def test_the_first_other_answer(self):
        right = trace(SEES, ROW)
        for k, (part, s) in enumerate(right):
            value = right[:k] + [(part, 1 - s)] + right[k + 1:]
            self.assertEqual(kept(judge_trace, SEES, ROW, value), ("answer", k))
            value = right[:k] + [(part, 1 - s) for part, s in right[k:]]
            self.assertEqual(kept(judge_trace, SEES, ROW, value), ("answer", k))
            value = right[:k] + [(part, bool(s))] + right[k + 1:]
            self.assertEqual(kept(judge_trace, SEES, ROW, value), ("form",))

    def test_answers_of_the_table_but_not_these(self):
        reader = (SIX, (("a", 5),), ())
        self.assertEqual([judge_trace(reader, "a", [("a", s)]) for s in range(7)], [("answer", 0)] * 5 + [None, ("form",)])


def alike_rows(x, y, z):
    """Pairs of rows that are one, by [1.2], and by what that says of copies and fractions."""
    mix, both = ("mix", (x, y)), ("join", (x, y))
    yield ("join", (both, z)), ("join", (x, y, z))
    yield ("join", (x, ("join", (y, z)))), ("join", (x, y, z))
    yield ("join", (x, ("right", x))), ("right", x)
    yield ("join", (("left", x), x)), ("left", x)
    yield ("join", (x, ("right", ("join", (y, x))))), ("right", both)
    yield ("join", (("left", ("join", (y, x))), y)), ("left", both)
    for k in range(2, 8):
        yield ("right", copies(x, k)), ("right", x)
        yield ("left", copies(x, k)), ("left", x)
    yield ("mix", (y, x)), mix
    yield ("mix", (x, y, x, x)), mix
    yield ("mix", (z, x, y)), ("mix", (x, y, z))
    yield ("mix", (("mix", (x,)),)), ("mix", (x,))
    yield ("mix", (("mix", (x, y)), x)), mix
    yield ("join", (mix, mix)), mix
    yield ("join", (mix, x, mix)), mix
    yield ("right", mix), mix
    yield ("left", mix), mix
    yield ("right", ("join", (mix, x))), mix
    yield ("left", ("join", (y, mix))), mix
    yield ("mix", (("join", (x, mix)), ("join", (mix, y)), ("join", (y, mix, x)))), mix
    yield ("mix", (("join", (x, mix, y)), x)), mix
    yield joined([x]), x
    yield copies(x, 1), x
    yield copies(copies(x, 2), 3), copies(x, 6)
    yield laid([both, z, both]), ("join", (both, z, both))


class RowsThatAreOne(unittest.TestCase):
    def test_they_are_answered_alike(self):
        rng = random.Random(43)
        for _ in range(40):
            reader = random_reader(rng)
            rows = [random_row(rng, 2) for _ in range(3)]
            for one, other in alike_rows(*rows):
                self.assertEqual(answer(reader, one), answer(reader, other), (reader, one, other))

    def test_some_readers_answer_other_rows_otherwise(self):
        for one, other in [("a", "b"), (("join", ("a", "b")), ("join", ("b", "a"))), (("right", "a"), ("left", "a")),
                           (("mix", ("a",)), ("right", "a")), (("mix", ("a", "b")), ("mix", ("a",)))]:
            readers = [(table, (("a", s), ("b", t)), ()) for table in LAWFUL for s in range(len(table[0]))
                       for t in range(len(table[0]))]
            self.assertTrue(any(answer(reader, one) != answer(reader, other) for reader in readers), (one, other))

    def test_read_texts(self):
        rng = random.Random(44)
        looked_at = 0
        for _ in range(200):
            reader, row = random_reader(rng), random_row(rng, 4)
            try:
                other = read_row(row_text(row))
            except BadText:
                continue
            looked_at += 1
            self.assertEqual(answer(reader, other), answer(reader, row))
        self.assertGreater(looked_at, 150)

    def test_what_is_ahead_a_place_and_what_is_behind_are_the_row(self):
        rng = random.Random(45)
        for _ in range(300):
            reader, row = random_reader(rng), random_row(rng, 4)
            place = random_place(rng, row)
            parts = [part for part in (ahead(row, place), letter_at(row, place), behind(row, place)) if part is not None]
            self.assertEqual(answer(reader, joined(parts)), answer(reader, row), (reader, row, place))
            self.assertEqual(answer(reader, put_at(row, place, letter_at(row, place))), answer(reader, row))
            self.assertEqual(row_letters(joined(parts)), row_letters(row))


if __name__ == "__main__":
    unittest.main()
