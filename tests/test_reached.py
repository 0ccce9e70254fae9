"""[4.5], [4.6] and [4.7]: reached answers, and papers of whether some row, or each one, is answered so."""

import random
import unittest
from itertools import combinations

from everrows.reached import always, judge_always, judge_asked, reached, row_or_lot, spare, turns
from everrows.steps import is_steps, row_of
from tests.rowmaking import kept
from tests.stepmaking import NO_STEPS, answers_of_steps, closure_as_told, papers, random_steps, steps_as_told
from tests.tablemaking import FIRST, HAS, LAWFUL, ONE, SEES, SIX, WIDE, fault_as_told, random_reader, subsets
from tests.test_closed import layers_as_told

LONE = (HAS, (("a", 0),), (1,))
COUNTS = (WIDE[3], (("b", 0), ("c", 1), ("z", 0)), (2, 4))


def some_readers():
    rng = random.Random(61)
    readers = [LONE, SEES, COUNTS, (ONE, (("a", 0),), ()), (ONE, (("a", 0),), (0,)), (SIX, (("a", 5),), (5,))]
    readers += [(table, tuple((letter, rng.randrange(len(table[0]))) for letter in "abcde"[:rng.randint(1, 5)]),
                 tuple(s for s in range(len(table[0])) if rng.random() < 0.6)) for table in LAWFUL + WIDE for _ in range(3)]
    return readers


def some_answers(n):
    return [lot for many in range(n + 1) for lot in combinations(range(n), many)]


def judged_as_told(reader, answers, value, words):
    """[4.6] and [4.7], straight from the document: words are "row" and "lot", or "not" and "always"."""
    table, letters, yes = reader
    n = len(table[0])
    if type(value) is not tuple or len(value) != 2 or type(value[0]) is not str or value[0] not in words:
        return ("form",)
    told = value[1]
    if value[0] == words[0]:
        if not steps_as_told(told):
            return ("form",)
        for entry in told:
            if isinstance(entry, str) and entry not in dict(letters):
                return ("letter", entry)
        s = answers_of_steps(reader, told)[-1]
        if words[0] == "row":
            return None if s in answers else ("answer", s)
        return ("yes", s) if s in yes else None
    if repr(told) not in [repr(lot) for lot in subsets(n)]:
        return ("form",)
    for letter, s in letters:
        if s not in told:
            return ("lacks", letter)
    for s in told:
        if words[0] == "row" and s in answers:
            return ("asked", s)
        if words[0] == "not" and s not in yes:
            return ("odd", s)
    fault = fault_as_told(table, told)
    return fault and ("out", fault)


class Reached(unittest.TestCase):
    def test_each_with_steps(self):
        for reader in some_readers():
            told = kept(reached, reader)
            self.assertEqual(tuple(sorted(told)), closure_as_told(reader[0], [s for _, s in reader[1]]), reader)
            for s, steps in told.items():
                self.assertIs(is_steps(steps), True)
                self.assertEqual(answers_of_steps(reader, steps)[-1], s)
                self.assertLessEqual(len(steps), 11)
                row_of(steps)

    def test_rows_have_no_others(self):
        rng = random.Random(62)
        for _ in range(200):
            reader = random_reader(rng)
            self.assertIn(answers_of_steps(reader, random_steps(rng, 12))[-1], reached(reader))

    def test_turns(self):
        self.assertEqual([kept(turns, LONE), kept(turns, COUNTS)], [[(0,)], [(0, 1), (0, 1, 2, 5), (0, 1, 2, 3, 4, 5)]])
        for reader in some_readers():
            told = kept(turns, reader)
            self.assertEqual(told, layers_as_told(reader[0], tuple(sorted({s for _, s in reader[1]}))))
            self.assertEqual(list(told[-1]), sorted(reached(reader)))

    def test_spare(self):
        for letters, told in [((("a", 0),), ()), ((("a", 0), ("b", 0)), ("a", "b")), ((("a", 0), ("b", 1)), ("a",)),
                              ((("a", 1), ("b", 2)), ()), ((("b", 0), ("c", 1), ("d", 2), ("z", 2)), ("b", "d", "z"))]:
            self.assertEqual(kept(spare, (FIRST, letters, ())), told)
        for reader in some_readers():
            table, letters, _ = reader
            whole = closure_as_told(table, [s for _, s in letters])
            told = [c for c, _ in letters if len(letters) > 1
                    and closure_as_told(table, [s for d, s in letters if d != c]) == whole]
            self.assertEqual(kept(spare, reader), tuple(told))

    def test_the_dicts_and_lists_are_new_ones(self):
        reached(SEES).clear()
        turns(SEES).clear()
        self.assertEqual([len(reached(SEES)), len(turns(SEES)), reached(SEES) == reached(SEES)], [2, 1, True])


class Asked(unittest.TestCase):
    def test_just_one_of_both_is_there(self):
        for reader in some_readers():
            known = closure_as_told(reader[0], [s for _, s in reader[1]])
            for answers in some_answers(len(reader[0][0])):
                value = kept(row_or_lot, reader, answers)
                self.assertEqual(value[0], "row" if set(answers) & set(known) else "lot")
                self.assertIsNone(judged_as_told(reader, answers, value, ("row", "lot")))
                self.assertIsNone(kept(judge_asked, reader, answers, value))
                self.assertEqual(row_or_lot(reader, answers), value)
                right = [lot for lot in subsets(len(reader[0][0])) if judge_asked(reader, answers, ("lot", lot)) is None]
                self.assertEqual(right == [], value[0] == "row")

    def test_nothing_asked_for(self):
        self.assertEqual([row_or_lot(SEES, ())[0], judge_asked(SEES, (), ("lot", (0, 1)))], ["lot", None])
        self.assertEqual(judge_asked(SEES, (), ("row", ("a",))), ("answer", 1))

    def test_each_fault_ahead_of_the_next_ones(self):
        table = (((0, 1, 2), (1, 1, 2), (2, 2, 2)), (0, 1, 2), (0, 1, 2), (0, 1, 2, 2, 2, 2, 2))
        reader = (table, (("b", 0), ("c", 1)), ())
        for answers, value, told in [
                ((1,), ("row", ("a", "b", "d")), ("letter", "a")), ((0,), ("row", ("b", "z", "c")), ("letter", "z")),
                ((0,), ("row", ("z", "b")), ("letter", "z")), ((2,), ("row", ("b", "c", ("join", 0, 1))), ("answer", 1)),
                ((0, 2), ("row", ("c", "b", ("right", 0))), ("answer", 1)), ((1,), ("row", ("b", "c", ("join", 0, 1))), None),
                ((2,), ("row", ("b", "c", ("mix", (0, 1)))), None), ((1, 2), ("lot", (2,)), ("lacks", "b")),
                ((0, 1), ("lot", (0,)), ("lacks", "c")), ((0,), ("lot", (1,)), ("lacks", "b")),
                ((0, 1), ("lot", (0, 1)), ("asked", 0)), ((1,), ("lot", (0, 1)), ("asked", 1)),
                ((1, 2), ("lot", (0, 1, 2)), ("asked", 1)), ((2,), ("lot", (0, 1)), ("out", ("mixed", (0, 1)))),
                ((), ("lot", (0, 1)), ("out", ("mixed", (0, 1)))), ((), ("lot", (0, 1, 2)), None)]:
            self.assertEqual(kept(judge_asked, reader, answers, value), told, (answers, value))
        for both, fault in [(((0, 2), (1, 1)), ("both", 0, 1)), (((0, 1), (2, 2)), ("both", 1, 0))]:
            odd = (tuple(row + (2,) for row in both) + ((2, 2, 2),),) + table[1:]
            self.assertEqual(judge_asked((odd, (("b", 0), ("c", 1)), ()), (), ("lot", (0, 1))), ("out", fault))

    def test_form(self):
        for value in [("row", steps) for steps in NO_STEPS] + [
                None, (), ("row",), ("row", ("a",), ()), ["row", ("a",)], ("Row", ("a",)), ("not", ("a",)), ("always", (0,)),
                ("lot",), ("lot", ()), ("lot", [0]), ("lot", (0, 0)), ("lot", (1, 0)), ("lot", (2,)), ("lot", (-1,)), ("lot", 0),
                ("lot", (True,)), ("lot", (False, 1)), ("lot", (0, True)), ("lot", ("a",)), ("lot", (0,), (0,)), ["lot", (0,)],
                (("lot",), (0,)), ("lot", ((0,),)), (True, (0,)), ("row", (0,)), ("lot", {0: 1})]:
            self.assertEqual(kept(judge_asked, SEES, (0,), value), ("form",), value)

    def test_against_the_document(self):
        rng = random.Random(63)
        for reader in some_readers()[:25]:
            n = len(reader[0][0])
            values = [row_or_lot(reader, lot) for lot in some_answers(n)[:3]] + [("lot", lot) for lot in subsets(n)[-3:]]
            values += [("row", random_steps(rng, 4, "abc")) for _ in range(2)]
            for value in papers(("row", "lot"), values):
                answers = tuple(s for s in range(n) if rng.random() < 0.4)
                self.assertEqual(kept(judge_asked, reader, answers, value),
                                 judged_as_told(reader, answers, value, ("row", "lot")), (reader, answers, value))


class Always(unittest.TestCase):
    def test_just_one_of_both_is_there(self):
        words = set()
        for reader in some_readers():
            known = closure_as_told(reader[0], [s for _, s in reader[1]])
            for yes in some_answers(len(reader[0][0])):
                asked = reader[:2] + (yes,)
                value = kept(always, asked)
                words.add(value[0])
                self.assertEqual(value[0], "always" if set(known) <= set(yes) else "not")
                self.assertIsNone(judged_as_told(asked, None, value, ("not", "always")))
                self.assertIsNone(kept(judge_always, asked, value))
        self.assertEqual(words, {"always", "not"})

    def test_each_fault_ahead_of_the_next_ones(self):
        table = LAWFUL[5]
        letters = (("b", 0), ("c", 1))
        for yes, value, told in [
                ((), ("not", ("a", "b", "d")), ("letter", "a")), ((0,), ("not", ("b", "c", "z", ("left", 0))), ("letter", "z")),
                ((0, 1), ("not", ("b", "c", ("join", 0, 1))), ("yes", 1)), ((0, 1), ("not", ("b", "c", ("mix", (0, 1)))), None),
                ((0,), ("not", ("c",)), None), ((0, 1), ("always", (2,)), ("lacks", "b")), ((0, 1), ("always", (0, 2)), ("lacks", "c")),
                ((), ("always", (0, 1)), ("odd", 0)), ((0,), ("always", (0, 1, 2)), ("odd", 1)),
                ((0, 1), ("always", (0, 1, 2)), ("odd", 2)), ((0, 1, 2), ("always", (0, 1)), ("out", ("mixed", (0, 1)))),
                ((0, 1), ("always", (0, 1)), ("out", ("mixed", (0, 1)))), ((0, 1, 2), ("always", (0, 1, 2)), None)]:
            self.assertEqual(kept(judge_always, (table, letters, yes), value), told, (yes, value))

    def test_form(self):
        for value in [("not", steps) for steps in NO_STEPS] + [
                None, ("row", ("a",)), ("lot", (0, 1)), ("always",), ("always", ()), ("always", (1, 0)), ("always", [0, 1]),
                ("always", (True,)), ("always", (0, 1, 2)), ["not", ("b",)], ("not", ("b",), 0), ("always", (0, 1), 0), "not"]:
            self.assertEqual(kept(judge_always, SEES, value), ("form",), value)

    def test_against_the_document(self):
        rng = random.Random(64)
        for reader in some_readers()[:25]:
            n = len(reader[0][0])
            values = [always(reader[:2] + (yes,)) for yes in ((), tuple(range(n)))] + [("always", lot) for lot in subsets(n)[-3:]]
            values += [("not", random_steps(rng, 4, "abc")) for _ in range(2)]
            for value in papers(("not", "always"), values):
                self.assertEqual(kept(judge_always, reader, value), judged_as_told(reader, None, value, ("not", "always")),
                                 (reader, value))


if __name__ == "__main__":
    unittest.main()
