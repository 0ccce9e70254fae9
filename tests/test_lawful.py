"""[3.3]: the nine rules, their cases in their order, and what is said of them."""

import random
import unittest

from everrows.lawful import broken_rules, first_broken, holds, judge_broken
from tests.rowmaking import ODD_VALUES, kept, nearly
from tests.tablemaking import (BENT, BROKEN, FIRST, HAS, LAWFUL, ONE, SIX, TURN, changed, mixed_as_told, random_table,
                               subsets)


def cases_as_told(table, number):
    """[3.3], straight from the document: the list of (things, whether the case holds), in order."""
    both, right, left, _ = table
    n = len(both)
    one = range(n)

    def joined(a, k):
        return a if k == 1 else both[joined(a, k - 1)][a]

    if number == 1:
        return [((a, b, c), both[both[a][b]][c] == both[a][both[b][c]]) for a in one for b in one for c in one]
    if number == 2:
        return [((a, b), right[both[a][b]] == both[a][right[both[b][a]]]) for a in one for b in one]
    if number == 3:
        return [((a, k), right[joined(a, k)] == right[a]) for a in one for k in range(2, n + 2)]
    if number == 4:
        return [((a, b), left[both[a][b]] == both[left[both[b][a]]][b]) for a in one for b in one]
    if number == 5:
        return [((a, k), left[joined(a, k)] == left[a]) for a in one for k in range(2, n + 2)]
    found = []
    for P in subsets(n):
        m = mixed_as_told(table, P)
        if number == 6:
            found += [((P,), both[m][m] == m)] + [((P, c), both[both[m][c]][m] == m) for c in P]
        elif number == 7:
            found += [((P,), right[m] == m)] + [((P, c), right[both[m][c]] == m) for c in P]
        elif number == 8:
            found += [((P,), left[m] == m)] + [((P, c), left[both[c][m]] == m) for c in P]
        else:
            V = {m} | {both[c][m] for c in P} | {both[m][d] for d in P} | {both[both[c][m]][d] for c in P for d in P}
            found += [((P, Q), mixed_as_told(table, Q) == m) for Q in subsets(n) if set(Q) <= V | set(P) and set(Q) & V]
    return found


def first_as_told(table):
    for number in range(1, 10):
        for things, kept_here in cases_as_told(table, number):
            if not kept_here:
                return number, things
    return None


def broken_as_told(table):
    return [number for number in range(1, 10) if not all(kept_here for _, kept_here in cases_as_told(table, number))]


def some_tables():
    rng = random.Random(24)
    tables = LAWFUL + [broken[0] for broken in BROKEN]
    tables += [random_table(rng, n) for n in (1, 1, 2, 2, 2, 3, 3, 4, 5, 6)]
    tables += [changed(rng, table) for table in LAWFUL for _ in range(8)]
    return tables + [changed(rng, changed(rng, table)) for table in LAWFUL for _ in range(3)]


class Lawful(unittest.TestCase):
    def test_lawful_tables(self):
        for table in LAWFUL:
            self.assertIsNone(kept(first_broken, table), table)
            self.assertEqual(kept(broken_rules, table), [], table)

    def test_each_rule(self):
        self.assertEqual({first[0] for _, first, _ in BROKEN}, set(range(1, 10)))
        for table, first, numbers in BROKEN:
            self.assertEqual(kept(first_broken, table), first)
            self.assertEqual(kept(broken_rules, table), numbers)
            self.assertIs(kept(holds, table, *first), False)

    def test_against_the_document(self):
        seen = set()
        for table in some_tables():
            first = first_as_told(table)
            seen.add(first and first[0])
            self.assertEqual(kept(first_broken, table), first, table)
            self.assertEqual(kept(broken_rules, table), broken_as_told(table), table)
        self.assertGreaterEqual(seen, {None, 1, 2, 3, 4, 5, 6, 7, 8})

    def test_holds(self):
        for table in some_tables():
            for number in range(1, 10):
                for things, kept_here in cases_as_told(table, number):
                    self.assertIs(holds(table, number, things), kept_here, (table, number, things))

    def test_the_list_is_a_new_one(self):
        broken_rules(TURN).clear()
        self.assertEqual(broken_rules(TURN), [2, 4, 6])

    def test_sixteen_tables_of_two_answers_are_lawful(self):
        found = 0
        for k in range(2 ** 11):
            v = tuple(k >> j & 1 for j in range(11))
            table = ((v[:2], v[2:4]), v[4:6], v[6:8], v[8:])
            found += first_broken(table) is None
        self.assertEqual(found, 16)


class Judged(unittest.TestCase):
    def test_none(self):
        for table in some_tables():
            self.assertEqual(kept(judge_broken, table, None), None if first_as_told(table) is None else ("lawless",))

    def test_each_case(self):
        for table in [ONE, HAS, FIRST] + [broken[0] for broken in BROKEN]:
            for number in range(1, 10):
                for things, kept_here in cases_as_told(table, number):
                    self.assertEqual(kept(judge_broken, table, (number, things)), ("holds",) if kept_here else None)

    def test_what_is_no_case(self):
        for value in [(), (1,), (1, (0, 0, 0), 0), (0, (0, 0, 0)), (0, ((0,),)), (-3, ((0,),)), (10, ((0,),)),
                      (10, ((0,), (0,))), (-1, (0, 0)), (True, (0, 0, 0)),
                      ("1", (0, 0, 0)), (None, (0, 0)), [1, (0, 0, 0)], (1, [0, 0, 0]), (1, (0, 0)), (1, (0, 0, 0, 0)),
                      (1, (0, 0, 2)), (1, (0, 0, -1)), (1, (0, 0, True)), (1, (False, 0, 0)), (2, (0,)), (2, (0, 0, 0)),
                      (2, (True, 0)), (3, (0, 1)), (3, (0, 4)), (3, (2, 2)), (3, (2, 0)), (3, (False, 2)), (5, (0, 1)), (5, (0, 4)),
                      (6, ()), (6, (0,)), (6, ((),)), (6, ([0],)), (6, ((0,), 1)), (6, ((1,), True)), (6, ((0,), False)),
                      (6, ((True,),)), (6, ((0, 1), 2)), (6, ((1, 0),)), (6, ((0, 0),)), (6, ((2,),)), (6, ((0,), (0,))),
                      (6, ((0,), 0, 0)), (7, ((0,), 1)), (8, (0, (0,))), (9, ((0,),)), (9, ((0,), 0)), (9, ((0,), (1,))),
                      (9, ((0,), [0])), (9, ((0,), ())), (9, ((0,), (False,))), (9, ((1,), (True,))), (9, ((0,), (0,), 0)),
                      (9, ((0, 1), (2,))), 0, True, False, (1, None), (1, "000"), (1, {})]:
            self.assertEqual(kept(judge_broken, HAS, value), ("form",), value)
        for value in ODD_VALUES:
            if value is not None:
                for table in (HAS, TURN):
                    self.assertEqual(kept(judge_broken, table, value), ("form",), value)

    def test_k_goes_to_one_more_than_there_are_answers(self):
        for table in (ONE, HAS, FIRST, SIX):
            n = len(table[0])
            told = [judge_broken(table, (number, (0, k))) for number in (3, 5) for k in range(n + 4)]
            self.assertEqual(told, ([("form",)] * 2 + [("holds",)] * n + [("form",)] * 2) * 2)

    def test_q_is_of_the_lot_and_its_edges_and_has_an_edge(self):
        self.assertEqual(judge_broken(HAS, (9, ((0, 1), (0,)))), ("form",))
        self.assertEqual([judge_broken(HAS, (9, ((0, 1), lot))) for lot in ((1,), (0, 1))], [("holds",)] * 2)
        self.assertEqual([judge_broken(FIRST, (9, ((1,), lot))) for lot in subsets(3)],
                         [("holds",), ("holds",), ("holds",), ("form",), ("form",), ("form",), ("form",)])

    def test_one_change(self):
        for table, first, _ in BROKEN:
            cases = {(number, things): kept_here for number in range(1, 10) for things, kept_here in cases_as_told(table, number)}
            told = {repr(case): ("holds",) if kept_here else None for case, kept_here in cases.items()}
            for value in nearly(first):
                if value is not None:
                    self.assertEqual(kept(judge_broken, table, value), told.get(repr(value), ("form",)), value)


if __name__ == "__main__":
    unittest.main()
