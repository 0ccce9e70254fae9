"""[5.3] and [5.4]: two readers agree, one is within the other, they never both say yes; and who tells it rightly."""

import random
import unittest

from everrows.agreeing import agree, disjoint, judge_agree, judge_disjoint, judge_within, within
from tests.pairmaking import (ALL, BOTH, HASA, HASB, NONE, leads_out_as_told, least_closed_pairs, lot_of_pairs_as_told,
                              pairs_of_letters, some_two)
from tests.rowmaking import kept
from tests.stepmaking import NO_STEPS, answers_of_steps, papers, random_steps, steps_as_told
from tests.tablemaking import HAS, LAWFUL, ONE, SIX, WIDE

CALLS = {
    "agree": (agree, judge_agree, lambda one, other: one == other),
    "within": (within, judge_within, lambda one, other: other or not one),
    "disjoint": (disjoint, judge_disjoint, lambda one, other: not (one and other)),
}


def as_needed(one, other, word, pair):
    return CALLS[word][2](pair[0] in one[2], pair[1] in other[2])


def judged_as_told(one, other, word, value):
    """[5.4], straight from the document."""
    if type(value) is not tuple or len(value) != 2 or type(value[0]) is not str:
        return ("form",)
    if value[0] == "parts" and steps_as_told(value[1]):
        for entry in value[1]:
            if isinstance(entry, str) and entry not in dict(one[1]):
                return ("letter", entry)
        pair = (answers_of_steps(one, value[1])[-1], answers_of_steps(other, value[1])[-1])
        return ("pair", pair) if as_needed(one, other, word, pair) else None
    if value[0] != word or not lot_of_pairs_as_told(one, other, value[1]):
        return ("form",)
    for letter, pair in pairs_of_letters(one, other):
        if pair not in value[1]:
            return ("lacks", letter)
    for pair in value[1]:
        if not as_needed(one, other, word, pair):
            return ("pair", pair)
    return leads_out_as_told(one, other, value[1])


class Papers(unittest.TestCase):
    def test_just_one_of_both_is_there(self):
        seen = set()
        for one, other in some_two():
            known = least_closed_pairs(one, other)
            for word, (call, judge, _) in CALLS.items():
                value = kept(call, one, other)
                seen.add((word, value[0]))
                self.assertEqual(value[0], word if all(as_needed(one, other, word, pair) for pair in known) else "parts")
                self.assertIsNone(judged_as_told(one, other, word, value), (one, other, value))
                self.assertIsNone(kept(judge, one, other, value))
                self.assertEqual(call(one, other), value)
        self.assertEqual(len(seen), 6)

    def test_by_name(self):
        told = [(agree, HASB, HASB, "agree"), (agree, HASB, HASA, "parts"), (agree, HASB, BOTH, "agree"), (agree, ALL, HASB, "parts"),
                (within, HASB, ALL, "within"), (within, ALL, HASB, "parts"), (within, NONE, HASA, "within"),
                (within, HASA, NONE, "parts"), (disjoint, HASA, NONE, "disjoint"), (disjoint, HASA, HASB, "parts"),
                (disjoint, NONE, NONE, "disjoint"), (agree, NONE, NONE, "agree"), (within, HASB, HASB, "within")]
        self.assertEqual([kept(call, one, other)[0] for call, one, other, _ in told], [word for _, _, _, word in told])

    def test_of_one_letter_and_of_one_and_six_answers(self):
        one, other = (ONE, (("q", 0),), (0,)), (SIX, (("q", 4),), (1, 3, 4))
        self.assertEqual([agree(one, other), within(other, one), disjoint(one, (SIX, (("q", 4),), (0, 5)))[0]],
                         [("agree", ((0, 3), (0, 4))), ("within", ((3, 0), (4, 0))), "disjoint"])
        self.assertEqual([judge_agree(one, other, ("agree", ((0, 4),))), judge_agree(one, other, ("parts", ("q", ("left", 0))))],
                         [("left", (0, 4)), ("pair", (0, 3))])


class Judged(unittest.TestCase):
    def test_each_fault_ahead_of_the_next_ones(self):
        one, other = (LAWFUL[5], (("b", 0), ("d", 1)), (1, 2)), (HAS, (("b", 0), ("d", 1)), (1,))
        for judge, value, told in [
                (judge_agree, ("agree", ((0, 1), (1, 1))), ("lacks", "b")), (judge_agree, ("agree", ((0, 0), (0, 1))), ("lacks", "d")),
                (judge_agree, ("agree", ((0, 0), (0, 1), (1, 1))), ("pair", (0, 1))),
                (judge_agree, ("agree", ((0, 0), (1, 0), (1, 1), (2, 0))), ("pair", (1, 0))),
                (judge_agree, ("agree", ((0, 0), (1, 1))), ("mixed", (0, 1), (0, 1))),
                (judge_agree, ("agree", ((0, 0), (1, 1), (2, 1))), None),
                (judge_agree, ("parts", ("a", "c")), ("letter", "a")), (judge_agree, ("parts", ("b", "z", "y")), ("letter", "z")),
                (judge_agree, ("parts", ("b", "d", ("mix", (0, 1)))), ("pair", (2, 1))),
                (judge_within, ("within", ((0, 0), (0, 1), (1, 1), (2, 1))), None),
                (judge_within, ("within", ((0, 0), (1, 0), (1, 1), (2, 0))), ("pair", (1, 0))),
                (judge_within, ("within", ((1, 1), (2, 1))), ("lacks", "b")),
                (judge_within, ("within", ((0, 0), (1, 1))), ("mixed", (0, 1), (0, 1))),
                (judge_within, ("parts", ("b",)), ("pair", (0, 0))), (judge_within, ("parts", ("d",)), ("pair", (1, 1))),
                (judge_disjoint, ("disjoint", ((0, 0), (0, 1), (1, 0))), ("lacks", "d")),
                (judge_disjoint, ("disjoint", ((0, 0), (1, 1))), ("pair", (1, 1))), (judge_disjoint, ("parts", ("d",)), None),
                (judge_disjoint, ("parts", ("b",)), ("pair", (0, 0)))]:
            self.assertEqual(kept(judge, one, other, value), told, value)
        none = (HAS, other[1], ())
        for judge, word in [(judge_within, "within"), (judge_disjoint, "disjoint")]:
            self.assertEqual(judge(none, one, (word, ((0, 0), (1, 1)))), ("mixed", (0, 1), (0, 1)))
            self.assertIsNone(judge(none, one, (word, ((0, 0), (1, 1), (1, 2)))))
            self.assertEqual(judge(none, one, ("parts", ("b",))), ("pair", (0, 0)))
        self.assertIsNone(judge_within(HASB, NONE, ("parts", ("a", "b"))))

    def test_form(self):
        pairs = ((0, 0), (1, 1))
        for word, (_, judge, _) in CALLS.items():
            for value in [("parts", steps) for steps in NO_STEPS] + [
                    None, (), word, (word,), (word, ()), (word, pairs, pairs), [word, pairs], (word, list(pairs)), (word, (0, 0)),
                    (word, ((0, 0), [1, 1])), (word, ((0, 0), (1, True))), (word, ((False, 0), (1, 1))), (word, ((1, 1), (0, 0))),
                    (word, ((0, 0), (0, 0))), (word, ((0, 0), (1, 2))), (word, ((0, 0), (2, 1))), (word, ((-1, 0),)),
                    (word, ((0, -1),)), (word, ((0,), (1,))), (word, ((0, 0, 0),)), (word, ("ab",)), (word, ((0, "a"),)),
                    (word, ((0, None), (1, 1))), (word, {(0, 0): 1}), ("parts",), ("parts", ("a",), 0), ["parts", ("a",)],
                    ("Parts", ("a",)), (word.upper(), pairs), (("parts",), ("a",)), (word, ("a",)), ("parts", pairs)] + [
                    (other, pairs) for other in CALLS if other != word]:
                self.assertEqual(kept(judge, HASB, HASB, value), ("form",), value)

    def test_firsts_are_of_one_and_seconds_of_other(self):
        one, other = (LAWFUL[5], HASB[1], ()), (HAS, HASB[1], ())
        self.assertEqual([judge_agree(one, other, ("agree", (pair,))) for pair in [(2, 1), (1, 2)]], [("lacks", "a"), ("form",)])
        self.assertEqual([judge_agree(other, one, ("agree", (pair,))) for pair in [(2, 1), (1, 2)]], [("form",), ("lacks", "a")])

    def test_against_the_document(self):
        rng, seen = random.Random(76), set()
        for one, other in some_two()[::2]:
            whole = tuple((s, u) for s in range(len(one[0][0])) for u in range(len(other[0][0])))
            letters = tuple(sorted({pair for _, pair in pairs_of_letters(one, other)}))
            for word, (call, judge, _) in CALLS.items():
                needed = tuple(pair for pair in whole if as_needed(one, other, word, pair))
                rights = [call(one, other), (word, whole), (word, letters), ("parts", random_steps(rng, 3, "abc"))]
                rights += [(word, needed)] if needed else []
                for value in papers((word, "parts"), [right for right in rights if len(right[1]) < 12]):
                    told = judged_as_told(one, other, word, value)
                    seen.add(told and told[0])
                    self.assertEqual(kept(judge, one, other, value), told, (one, other, value))
        self.assertEqual(seen, {None, "form", "letter", "lacks", "pair", "both", "right", "left", "mixed"})

    def test_any_closed_lot_and_any_steps(self):
        one, other = (WIDE[3], (("a", 1),), (5,)), (HAS, (("a", 0),), ())
        for value in [("parts", ("a", ("right", 0))), ("parts", ("a", ("mix", (0,)), ("join", 1, 0)))]:
            self.assertIsNone(judge_agree(one, other, value))
        bigger = tuple((s, u) for s in range(5) for u in (0, 1))
        self.assertIsNone(judge_within(other, one, ("within", tuple((u, s) for u in (0, 1) for s in range(6)))))
        self.assertEqual(judge_disjoint(one, other, ("disjoint", bigger)), ("both", (1, 0), (4, 0)))


if __name__ == "__main__":
    unittest.main()
