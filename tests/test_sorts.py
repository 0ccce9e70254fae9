"""[9.1] to [9.5]: sorts of rows, the answers that rows of a sort have, and two readers over the rows of a sort."""

import random
import unittest
from itertools import product

from everrows.levels import form
from everrows.one import are_one
from everrows.readers import answer, is_reader
from everrows.sorts import by_sort, judge_by_sort, judge_same, same_by_sort, sorts_of, sorts_of_row
from everrows.steps import row_of
from tests.onemaking import MIX_A, RICH, join, some_rows
from tests.pairmaking import ALL, HASA, HASB, covered_as_told, lot_of_pairs_as_told, pairs_of_letters, some_two
from tests.rowmaking import kept
from tests.stepmaking import NO_STEPS, answers_of_steps, papers, random_steps, steps_as_told
from tests.tablemaking import EDGES, FIRST, HAS, LAWFUL, ONE, SEES, WIDE, counting, mixed_as_told, random_reader, subsets
from tests.test_reached import some_readers

DEALINGS = {"finite": ["join"], "right": ["join", "right"], "left": ["join", "left"], "scattered": ["join", "right", "left"],
            "all": ["join", "right", "left", "mix"]}
SORTS = list(DEALINGS)

# 1 for rows without a mix.
SPARSE = (((0, 0), (0, 1)), (0, 1), (0, 1), (0, 0, 0))


def words_of(row):
    if isinstance(row, str):
        return set()
    return {row[0]}.union(*map(words_of, (row[1],) if row[0] in ("right", "left") else row[1]))


def dealings_as_told(table, lot, sort):
    """The dealings of a sort, with answers of a lot, and what comes of them, in their order."""
    both, right, left, _ = table
    words = DEALINGS[sort]
    found = [(("both", s, t), both[s][t]) for s in lot for t in lot]
    found += [(("right", s), right[s]) for s in lot] if "right" in words else []
    found += [(("left", s), left[s]) for s in lot] if "left" in words else []
    if "mix" in words:
        found += [(("mixed", P), mixed_as_told(table, P)) for P in subsets(len(both)) if set(P) <= set(lot)]
    return found


def pair_dealings_as_told(one, other, pairs, sort):
    (both, right, left, _), (beside, right_too, left_too, _) = one[0], other[0]
    words = DEALINGS[sort]
    found = [(("both", p, q), (both[p[0]][q[0]], beside[p[1]][q[1]])) for p in pairs for q in pairs]
    found += [(("right", p), (right[p[0]], right_too[p[1]])) for p in pairs] if "right" in words else []
    found += [(("left", p), (left[p[0]], left_too[p[1]])) for p in pairs] if "left" in words else []
    if "mix" in words:
        found += [(("mixed", A, B), (mixed_as_told(one[0], A), mixed_as_told(other[0], B))) for A in subsets(len(both))
                  for B in subsets(len(beside)) if covered_as_told(pairs, A, B)]
    return found


def first_out(dealings, lot):
    return next((dealing for dealing, thing in dealings if thing not in lot), None)


def answers_by_sort(reader, sort):
    found = {s for _, s in reader[1]}
    while True:
        more = found | {s for _, s in dealings_as_told(reader[0], sorted(found), sort)}
        if more == found:
            return found
        found = more


def pairs_by_sort(one, other, sort):
    found = {p for _, p in pairs_of_letters(one, other)}
    while True:
        more = found | {p for _, p in pair_dealings_as_told(one, other, sorted(found), sort)}
        if more == found:
            return found
        found = more


def steps_judged(letters, sort, steps):
    for entry in steps:
        if isinstance(entry, str) and entry not in letters:
            return ("letter", entry)
    for k, entry in enumerate(steps):
        if not isinstance(entry, str) and entry[0] not in DEALINGS[sort]:
            return ("dealing", k)
    return None


def judged_as_told(reader, sort, s, value):
    """[9.3], straight from the document."""
    if type(value) is not tuple or len(value) != 2 or type(value[0]) is not str:
        return ("form",)
    told = value[1]
    if value[0] == "row" and steps_as_told(told):
        t = steps_judged(dict(reader[1]), sort, told)
        if t:
            return t
        t = answers_of_steps(reader, told)[-1]
        return None if t == s else ("answer", t)
    if value[0] != "lot" or repr(told) not in [repr(lot) for lot in subsets(len(reader[0][0]))]:
        return ("form",)
    for letter, t in reader[1]:
        if t not in told:
            return ("lacks", letter)
    if s in told:
        return ("asked",)
    fault = first_out(dealings_as_told(reader[0], told, sort), told)
    return fault and ("out", fault)


def same_judged_as_told(one, other, sort, value):
    """[9.5], straight from the document."""
    if type(value) is not tuple or len(value) != 2 or type(value[0]) is not str:
        return ("form",)
    told = value[1]
    if value[0] == "parts" and steps_as_told(told):
        t = steps_judged(dict(one[1]), sort, told)
        if t:
            return t
        pair = (answers_of_steps(one, told)[-1], answers_of_steps(other, told)[-1])
        return ("pair", pair) if (pair[0] in one[2]) == (pair[1] in other[2]) else None
    if value[0] != "agree" or not lot_of_pairs_as_told(one, other, told):
        return ("form",)
    for letter, pair in pairs_of_letters(one, other):
        if pair not in told:
            return ("lacks", letter)
    for pair in told:
        if (pair[0] in one[2]) != (pair[1] in other[2]):
            return ("pair", pair)
    return first_out(pair_dealings_as_told(one, other, told, sort), told)


class SortsOfRow(unittest.TestCase):
    def test_each_dealing(self):
        for row, told in [
                ("a", SORTS), (join("a", "b"), SORTS), (("right", "a"), ["right", "scattered", "all"]), (("left", "a"), ["left", "scattered", "all"]),
                (MIX_A, ["all"]), (("right", ("left", "a")), ["scattered", "all"]), (join(("left", "a"), ("right", "a")), ["scattered", "all"]),
                (("right", join("a", ("right", "b"))), ["right", "scattered", "all"]), (("left", join("a", "b")), ["left", "scattered", "all"]),
                (("right", MIX_A), ["all"]), (join("a", MIX_A), ["all"])]:
            self.assertEqual(kept(sorts_of_row, row), told)

    def test_against_the_document(self):
        rng = random.Random(190)
        for row in RICH + some_rows(rng, 200, 4, "abc") + some_rows(rng, 50, 4, "abc", words=("join", "left")):
            self.assertEqual(sorts_of_row(row), [sort for sort in SORTS if words_of(row) <= set(DEALINGS[sort])])

    def test_asked_of_the_tuples_by_which_it_is_told(self):
        one, other = ("right", MIX_A), MIX_A
        self.assertIs(are_one(one, other), True)
        self.assertEqual([sorts_of_row(one), sorts_of_row(other)], [["all"], ["all"]])
        sorts_of_row("a").clear()
        self.assertEqual(sorts_of_row("a"), SORTS)


class BySort(unittest.TestCase):
    def test_just_one_of_both_is_there(self):
        seen = set()
        for reader in some_readers():
            for sort in SORTS:
                known = answers_by_sort(reader, sort)
                for s in range(len(reader[0][0])):
                    value = kept(by_sort, reader, sort, s)
                    seen.add((sort, value[0]))
                    self.assertEqual(value[0], "row" if s in known else "lot")
                    self.assertIsNone(judged_as_told(reader, sort, s, value), (reader, sort, s, value))
                    self.assertIsNone(kept(judge_by_sort, reader, sort, s, value))
                    right = [lot for lot in subsets(len(reader[0][0])) if judge_by_sort(reader, sort, s, ("lot", lot)) is None]
                    self.assertEqual(right == [], value[0] == "row")
                    if value[0] == "row":
                        self.assertIn(sort, sorts_of_row(row_of(value[1])))
        self.assertEqual(len(seen), 10)

    def test_rows_of_a_sort_have_no_others(self):
        rng = random.Random(191)
        for _ in range(150):
            reader = random_reader(rng)
            for sort, words in DEALINGS.items():
                row = some_rows(rng, 1, 4, "abc", words=words)[0]
                self.assertEqual(by_sort(reader, sort, answer(reader, row))[0], "row")

    def test_faults_in_their_order(self):
        edges = (EDGES, (("b", 3), ("c", 3)), ())
        for reader, sort, s, value, told in [
                (SEES, "finite", 1, ("row", ("b", ("right", 0), "d")), ("letter", "d")), (SEES, "finite", 1, ("row", ("b", ("right", 0), ("left", 1))), ("dealing", 1)),
                (SEES, "right", 1, ("row", ("b", ("right", 0), ("left", 1))), ("dealing", 2)), (SEES, "left", 1, ("row", ("b", ("right", 0), ("left", 1))), ("dealing", 1)),
                (SEES, "scattered", 1, ("row", ("b", ("right", 0), ("left", 1))), ("answer", 0)), (SEES, "scattered", 0, ("row", ("b", ("right", 0), ("left", 1))), None),
                (SEES, "scattered", 0, ("row", ("b", "a", ("mix", (0, 1)))), ("dealing", 2)), (SEES, "all", 0, ("row", ("b", "a", ("mix", (0, 1)))), ("answer", 1)),
                (SEES, "scattered", 0, ("row", (("right", 0),)), ("form",)), (SEES, "finite", 0, ("row", ("b", ("mix", (0,)), "b")), ("dealing", 1)),
                (SEES, "all", 0, ("lot", (1,)), ("lacks", "b")), (SEES, "all", 0, ("lot", (0,)), ("lacks", "a")), (SEES, "all", 0, ("lot", (0, 1)), ("asked",)),
                (edges, "finite", 2, ("lot", (3,)), None), (edges, "right", 0, ("lot", (3,)), ("out", ("right", 3))), (edges, "left", 0, ("lot", (3,)), ("out", ("left", 3))),
                (edges, "right", 0, ("lot", (2, 3)), None), (edges, "left", 0, ("lot", (1, 3)), None), (edges, "scattered", 0, ("lot", (2, 3)), ("out", ("left", 2))),
                (edges, "scattered", 0, ("lot", (1, 3)), ("out", ("right", 1))), (edges, "all", 1, ("lot", (3,)), ("out", ("right", 3))),
                (edges, "left", 3, ("lot", (1, 2)), ("lacks", "b")), (edges, "left", 3, ("lot", (3,)), ("asked",)), (edges, "finite", 3, ("row", ("c", "a")), ("letter", "a"))]:
            self.assertEqual(kept(judge_by_sort, reader, sort, s, value), told, (sort, s, value))
        table = (((0, 0, 1), (1, 1, 1), (2, 2, 2)), (0, 1, 2), (0, 1, 2), (2,) * 7)
        self.assertEqual(judge_by_sort((table, (("a", 0),), ()), "scattered", 1, ("lot", (0,))), None)
        self.assertEqual(judge_by_sort((table, (("a", 0),), ()), "all", 1, ("lot", (0,))), ("out", ("mixed", (0,))))
        self.assertEqual(judge_by_sort((table, (("a", 0), ("b", 2)), ()), "finite", 1, ("lot", (0, 2))), ("out", ("both", 0, 2)))

    def test_form(self):
        for value in [("row", steps) for steps in NO_STEPS] + [
                None, (), ("row",), ("row", ("a",), ()), ["row", ("a",)], ("not", ("a",)), ("lot",), ("lot", ()), ("lot", [0]), ("lot", (1, 0)), ("lot", (2,)),
                ("lot", (True,)), ("lot", (False, 1)), ("lot", (0, 1), ()), ["lot", (0, 1)], ("agree", ((0, 0),)), (True, (0,))]:
            for sort in SORTS:
                self.assertEqual(kept(judge_by_sort, SEES, sort, 0, value), ("form",), value)

    def test_against_the_document(self):
        rng = random.Random(192)
        for reader in some_readers()[:25]:
            n = len(reader[0][0])
            values = [by_sort(reader, sort, s) for sort in ("finite", "all") for s in range(min(n, 2))] + [("lot", lot) for lot in subsets(n)[-3:]]
            values += [("row", random_steps(rng, 4, "abc")) for _ in range(2)]
            for value in papers(("row", "lot"), values):
                sort, s = rng.choice(SORTS), rng.randrange(n)
                self.assertEqual(kept(judge_by_sort, reader, sort, s, value), judged_as_told(reader, sort, s, value), (reader, sort, s, value))

    def test_sorts_of(self):
        for reader in some_readers():
            known = {sort: answers_by_sort(reader, sort) for sort in SORTS}
            self.assertEqual(kept(sorts_of, reader), {s: [sort for sort in SORTS if s in known[sort]] for s in known["all"]})
        told = sorts_of((EDGES, (("a", 3),), ()))
        self.assertEqual(told, {0: ["scattered", "all"], 1: ["left", "scattered", "all"], 2: ["right", "scattered", "all"], 3: SORTS})
        self.assertEqual(sorts_of((counting(3), (("a", 1),), ())), {1: SORTS, 2: SORTS})
        self.assertEqual(sorts_of((LAWFUL[6], (("a", 0), ("b", 2)), ()))[1], SORTS)

    def test_the_dict_and_its_lists_are_new_ones(self):
        told = sorts_of(SEES)
        self.assertEqual(told, {0: SORTS, 1: SORTS})
        told[0].clear()
        self.assertEqual(told[1], SORTS)
        told.clear()
        self.assertEqual(sorts_of(SEES), {0: SORTS, 1: SORTS})


class SameBySort(unittest.TestCase):
    def test_just_one_of_both_is_there(self):
        seen = set()
        for one, other in some_two():
            for sort in SORTS:
                known = pairs_by_sort(one, other, sort)
                value = kept(same_by_sort, one, other, sort)
                seen.add((sort, value[0]))
                self.assertEqual(value[0], "agree" if all((s in one[2]) == (u in other[2]) for s, u in known) else "parts")
                self.assertIsNone(same_judged_as_told(one, other, sort, value))
                self.assertIsNone(kept(judge_same, one, other, sort, value))
                self.assertEqual(judge_same(one, other, sort, ("agree", tuple(sorted(known)))) is None, value[0] == "agree")
        self.assertEqual(len(seen), 10)
        self.assertIs(is_reader((SPARSE, (("a", 1),), ())), True)

    def test_readers_that_only_some_sorts_part(self):
        def first(yes):
            return (EDGES, (("a", 3),), yes)
        every = (ONE, (("a", 0),), (0,))
        for yes, told in [((3,), "agree parts parts parts parts"), ((1, 3), "agree parts agree parts parts"), ((2, 3), "agree agree parts parts parts"),
                          ((1, 2, 3), "agree agree agree parts parts"), ((0, 1, 2, 3), "agree agree agree agree agree")]:
            self.assertEqual([same_by_sort(every, first(yes), sort)[0] for sort in SORTS], told.split(), yes)
        scattered = (SPARSE, (("a", 1),), (1,))
        self.assertEqual([same_by_sort(every, scattered, sort)[0] for sort in SORTS], ["agree"] * 4 + ["parts"])

    def test_faults_in_their_order(self):
        for one, other, sort, value, told in [
                (HASB, HASA, "finite", ("parts", ("a", ("right", 0), "c")), ("letter", "c")), (HASB, HASA, "finite", ("parts", ("a", ("right", 0))), ("dealing", 1)),
                (HASB, HASA, "right", ("parts", ("a", ("right", 0))), None), (HASB, HASA, "left", ("parts", ("a", "b", ("join", 0, 1))), ("pair", (1, 1))),
                (HASB, HASA, "scattered", ("parts", ("a", "b", ("mix", (0, 1)), ("join", 0, 0))), ("dealing", 2)), (HASB, HASA, "all", ("parts", ("a",)), None),
                (HASB, HASA, "all", ("agree", ((0, 0),)), ("lacks", "a")), (HASB, HASA, "all", ("agree", ((0, 1),)), ("lacks", "b")),
                (HASB, HASA, "all", ("agree", ((0, 1), (1, 0))), ("pair", (0, 1))), (HASB, HASB, "all", ("agree", ((0, 0), (1, 1))), None),
                (HASB, HASB, "all", ("agree", ((0, 0), (0, 1), (1, 1))), ("pair", (0, 1))), (HASB, HASB, "all", ("agree", ((0, 0),)), ("lacks", "b")),
                (HASB, ALL, "all", ("agree", ((0, 0), (1, 1))), ("pair", (0, 0))), (HASB, HASB, "all", ("within", ((0, 0), (1, 1))), ("form",)),
                (HASB, HASB, "all", ("agree", ((1, 1), (0, 0))), ("form",)), (HASB, HASB, "all", ("agree", [(0, 0), (1, 1)]), ("form",)),
                (HASB, HASB, "all", ("agree", ([0, 0], (1, 1))), ("form",)), (HASB, HASB, "all", ("agree", ()), ("form",)),
                (HASB, HASB, "all", ("agree", ((False, 0), (1, 1))), ("form",)), (HASB, HASB, "all", ("agree", ((0, 0), (1, 2))), ("form",)),
                (HASB, HASB, "all", ["agree", ((0, 0), (1, 1))], ("form",)), (HASB, HASB, "all", ("parts", ["a"]), ("form",)), (HASB, HASB, "finite", None, ("form",))]:
            self.assertEqual(kept(judge_same, one, other, sort, value), told, (sort, value))
        one, other = (FIRST, (("a", 1),), ()), (EDGES, (("a", 3),), ())
        for sort, pairs, told in [
                ("finite", ((1, 3),), None), ("right", ((1, 3),), ("right", (1, 3))), ("right", ((1, 2), (1, 3)), None), ("left", ((1, 3),), ("left", (1, 3))),
                ("scattered", ((1, 2), (1, 3)), ("left", (1, 2))), ("all", ((0, 0), (0, 1), (1, 2), (1, 3)), None)]:
            self.assertEqual(judge_same(one, other, sort, ("agree", pairs)), told, (sort, pairs))
        odd = (SPARSE, (("a", 1),), ())
        self.assertEqual([judge_same(odd, odd, sort, ("agree", ((1, 1),))) for sort in ("scattered", "all")], [None, ("mixed", (1,), (1,))])

    def test_against_the_document(self):
        rng = random.Random(193)
        for one, other in some_two()[:24]:
            values = [same_by_sort(one, other, sort) for sort in ("finite", "all")] + [("agree", tuple(sorted({p for _, p in pairs_of_letters(one, other)})))]
            values += [("parts", random_steps(rng, 4, "ab")), ("agree", tuple(sorted(pairs_by_sort(one, other, "right")))[:12])]
            values = list(papers(("agree", "parts"), values))
            for value in rng.sample(values, min(len(values), 260)):
                sort = rng.choice(SORTS)
                self.assertEqual(kept(judge_same, one, other, sort, value), same_judged_as_told(one, other, sort, value), (one, other, sort, value))

    def test_six_answers_over_five_letters(self):
        rng = random.Random(194)
        for one, other in product([LAWFUL[3], WIDE[3], WIDE[6]], [WIDE[7], WIDE[8]]):
            one, other = random_reader(rng, "abcde", [one]), random_reader(rng, "abcde", [other])
            for sort in SORTS:
                self.assertIsNone(judge_same(one, other, sort, same_by_sort(one, other, sort)))
        self.assertEqual(form(row_of(same_by_sort(HASB, (HAS, HASB[1], ()), "finite")[1])), "b")


if __name__ == "__main__":
    unittest.main()
