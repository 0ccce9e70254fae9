"""[6.5] and [6.6]: least readers, readers called anew, and the names by which two least readers are the same."""

import random
import unittest
from functools import lru_cache
from itertools import permutations, product

from everrows.agreeing import agree
from everrows.apart import classes, part
from everrows.lawful import first_broken
from everrows.leasts import called, is_least, judge_rename, least, rename
from everrows.reached import reached
from everrows.readers import is_reader, says
from everrows.steps import row_of
from tests.pairmaking import ALL, BOTH, HASA, HASB, NONE, some_two
from tests.roundmaking import classes_as_told
from tests.rowmaking import kept, random_row
from tests.stepmaking import NO_STEPS, answers_of_steps, papers, random_steps, steps_as_told
from tests.tablemaking import HAS, LAWFUL, ONE, SIX, WIDE, mixed_as_told, random_reader, subsets

THREE = (LAWFUL[5], (("a", 0), ("b", 1)), (1,))


def some_readers():
    rng = random.Random(100)
    readers = [HASB, HASA, ALL, NONE, BOTH, THREE, (ONE, (("z", 0),), ()), (SIX, (("a", 5), ("b", 1)), (2, 4))]
    return readers + [random_reader(rng, "abcde"[:rng.randint(1, 5)], [table]) for table in LAWFUL + WIDE for _ in range(3)]


@lru_cache(maxsize=None)
def least_as_told(reader, choose=min):
    """[6.5], straight from the document, dealing with an answer out of each class as choose tells."""
    (both, right, left, _), letters, yes = reader
    sharing, _ = classes_as_told(reader)

    def name(s):
        return [s in lot for lot in sharing].index(True)

    out = [choose(lot) for lot in sharing]
    table = (tuple(tuple(name(both[s][t]) for t in out) for s in out), tuple(name(right[s]) for s in out),
             tuple(name(left[s]) for s in out),
             tuple(name(mixed_as_told(reader[0], [out[k] for k in lot])) for lot in subsets(len(out))))
    return (table, tuple((letter, name(s)) for letter, s in letters), tuple(k for k, s in enumerate(out) if s in yes))


def called_as_told(reader, names):
    (both, right, left, mixed), letters, yes = reader
    n = len(both)
    old = [names.index(k) for k in range(n)]
    table = (tuple(tuple(names[both[s][t]] for t in old) for s in old), tuple(names[right[s]] for s in old),
             tuple(names[left[s]] for s in old),
             tuple(names[mixed_as_told(reader[0], [old[k] for k in lot])] for lot in subsets(n)))
    return (table, tuple((letter, names[s]) for letter, s in letters), tuple(sorted(names[s] for s in yes)))


def judged_as_told(one, other, value):
    """[6.6], straight from the document."""
    if type(value) is not tuple or len(value) != 2 or type(value[0]) is not str:
        return ("form",)
    told = value[1]
    if value[0] == "parts" and steps_as_told(told):
        for entry in told:
            if isinstance(entry, str) and entry not in dict(one[1]):
                return ("letter", entry)
        s, u = answers_of_steps(one, told)[-1], answers_of_steps(other, told)[-1]
        return ("pair", (s, u)) if (s in one[2]) == (u in other[2]) else None
    (table, letters, yes), (theirs, their_letters, their_yes) = least_as_told(one), least_as_told(other)
    n = len(table[0])
    if value[0] != "same" or len(theirs[0]) != n or repr(told) not in [repr(names) for names in permutations(range(n))]:
        return ("form",)
    for letter, s in letters:
        if told[s] != dict(their_letters)[letter]:
            return ("lacks", letter)
    for s in range(n):
        if (s in yes) != (told[s] in their_yes):
            return ("yes", s)
    for s in range(n):
        for t in range(n):
            if told[table[0][s][t]] != theirs[0][told[s]][told[t]]:
                return ("both", s, t)
    for word, k in (("right", 1), ("left", 2)):
        for s in range(n):
            if told[table[k][s]] != theirs[k][told[s]]:
                return (word, s)
    for P in subsets(n):
        if told[mixed_as_told(table, P)] != mixed_as_told(theirs, [told[s] for s in P]):
            return ("mixed", P)
    return None


class Least(unittest.TestCase):
    def test_of_classes_whichever_answers_are_taken(self):
        for reader in some_readers():
            told = kept(least, reader)
            self.assertEqual(told, least_as_told(reader))
            self.assertEqual(told, least_as_told(reader, max))
            self.assertIs(kept(is_least, reader), told == reader)

    def test_it_is_lawful_reaches_each_answer_and_parts_any_two(self):
        for reader in some_readers():
            told = least(reader)
            n = len(told[0][0])
            self.assertIsNone(first_broken(told[0]))
            self.assertIs(is_reader(told), True)
            self.assertEqual(sorted(reached(told)), list(range(n)))
            self.assertEqual(classes(told), tuple((s,) for s in range(n)))
            self.assertEqual([part(told, s, t)[0] for s in range(n) for t in range(n) if s != t], ["parts"] * (n * n - n))
            self.assertEqual([least(told), is_least(told)], [told, True])

    def test_it_says_yes_to_the_same_rows(self):
        rng = random.Random(101)
        for reader in some_readers():
            self.assertEqual(agree(reader, least(reader))[0], "agree")
            for _ in range(5):
                row = random_row(rng, 3, "".join(letter for letter, _ in reader[1]))
                self.assertIs(says(least(reader), row), says(reader, row))

    def test_answers_that_are_not_reached_are_left_out(self):
        reader = (WIDE[3], (("a", 5), ("b", 0)), (1, 5))
        self.assertEqual(least(reader), (HAS, (("a", 1), ("b", 0)), (1,)))
        self.assertEqual(least((SIX, (("a", 4),), (0, 1, 2))), (ONE, (("a", 0),), ()))
        self.assertEqual(least(ALL), (ONE, (("a", 0), ("b", 0)), (0,)))

    def test_those_that_are_their_own(self):
        for reader, told in [(HASB, True), (THREE, True), (BOTH, False), (ALL, False), ((WIDE[3], (("a", 1),), (3,)), False),
                             ((WIDE[3], (("a", 1), ("b", 0)), (2, 3)), False), ((ONE, (("z", 0),), (0,)), True),
                             ((WIDE[3], (("a", 1), ("b", 0)), (1,)), False), ((WIDE[3], (("a", 1), ("b", 0)), (4,)), True),
                             (called(HASB, (1, 0)), True), (called(THREE, (0, 2, 1)), True)]:
            self.assertIs(kept(is_least, reader), told, reader)


class Called(unittest.TestCase):
    def test_there_and_back(self):
        rng = random.Random(102)
        for reader in some_readers():
            n = len(reader[0][0])
            for names in (list(permutations(range(n))) if n < 4 else [tuple(rng.sample(range(n), n)) for _ in range(4)]):
                told = kept(called, reader, names)
                self.assertEqual(told, called_as_told(reader, names))
                self.assertIs(is_reader(told), True)
                self.assertEqual(called(told, tuple(names.index(k) for k in range(n))), reader)

    def test_by_name(self):
        self.assertEqual(called(THREE, (2, 0, 1)), called_as_told(THREE, (2, 0, 1)))
        self.assertEqual([called(THREE, (2, 0, 1))[1:], called(ALL, (1, 0))[2], called(NONE, (1, 0))[2]],
                         [((("a", 2), ("b", 0)), (0,)), (0, 1), ()])


class Renamed(unittest.TestCase):
    def test_just_one_of_both_is_there(self):
        rng, words = random.Random(103), set()
        more = []
        for reader in some_readers():
            n = len(reader[0][0])
            more += [(reader, called(reader, tuple(rng.sample(range(n), n)))), (least(reader), reader)]
        for one, other in some_two() + more:
            value = kept(rename, one, other)
            words.add(value[0])
            self.assertEqual(value[0], "same" if agree(one, other)[0] == "agree" else "parts")
            self.assertIsNone(judged_as_told(one, other, value))
            self.assertIsNone(kept(judge_rename, one, other, value))
            if value[0] == "same":
                self.assertEqual(called(least(one), value[1]), least(other))
                back = tuple(value[1].index(u) for u in range(len(value[1])))
                self.assertEqual(rename(other, one), ("same", back))
            else:
                row = row_of(value[1])
                self.assertNotEqual(says(one, row), says(other, row))
                mine, theirs = least(one), least(other)
                if len(mine[0][0]) < 5:
                    self.assertNotIn(theirs, [called(mine, names) for names in permutations(range(len(mine[0][0])))])
        self.assertEqual(words, {"same", "parts"})

    def test_there_are_no_other_names(self):
        for reader in some_readers():
            n = len(least(reader)[0][0])
            if n < 5:
                right = [names for names in permutations(range(n)) if judge_rename(reader, reader, ("same", names)) is None]
                self.assertEqual(right, [tuple(range(n))])


class Judged(unittest.TestCase):
    def test_each_fault_of_names(self):
        table = (((0, 1, 2), (1, 1, 2), (2, 2, 2)), (0, 1, 2), (0, 1, 2), (0, 1, 2, 2, 2, 2, 2))
        one = (table, (("a", 0), ("b", 1)), (1,))
        self.assertIs(is_least(one), True)
        for other, names, told in [
                (one, (1, 0, 2), ("lacks", "a")), (one, (0, 2, 1), ("lacks", "b")), (one, (0, 1, 2), None),
                ((table, one[1], (0, 1)), (0, 1, 2), ("yes", 0)), ((table, one[1], (2,)), (0, 1, 2), ("yes", 1)),
                ((table, one[1], (1, 2)), (0, 1), ("form",)), ((LAWFUL[2], one[1], (1,)), (0, 1), ("form",))]:
            self.assertEqual(judged_as_told(one, other, ("same", names)), told)
            self.assertEqual(kept(judge_rename, one, other, ("same", names)), told, (other, names))

    def test_each_dealing_ahead_of_the_next_ones(self):
        """Readers with two answers whose least readers have them, too, and differ in some dealings alone."""
        seen = set()
        two, three = list(product((0, 1), repeat=2)), list(product((0, 1), repeat=3))
        tables = [((x, y), right, left, mixed) for x in two for y in two for right in two for left in two for mixed in three]
        readers = [(table, (("a", 0), ("b", 1)), (1,)) for table in tables]
        readers = [reader for reader in readers if first_broken(reader[0]) is None]
        self.assertGreater(len(readers), 10)
        for one in readers:
            for other in readers:
                told = judged_as_told(one, other, ("same", (0, 1)))
                seen.add(told and told[0])
                self.assertEqual(kept(judge_rename, one, other, ("same", (0, 1))), told)
        self.assertEqual(seen, {None, "both", "right", "left", "mixed"})

    def test_each_fault_of_steps(self):
        for value, told in [(("z", "a", "c"), ("letter", "z")), (("a", "c", "z"), ("letter", "c")), (("a",), None), (("b",), None),
                            (("a", "b", ("join", 0, 1)), ("pair", (1, 1))), (("a", "b", ("mix", (0, 1)), ("left", 2)), ("pair", (1, 1)))]:
            self.assertEqual(kept(judge_rename, HASB, HASA, ("parts", value)), told)
        self.assertEqual(judge_rename(HASB, HASB, ("parts", ("a",))), ("pair", (0, 0)))
        self.assertEqual(judge_rename(BOTH, HASB, ("parts", ("a", "b", ("mix", (0, 1))))), ("pair", (2, 1)))

    def test_form(self):
        for value in [("parts", steps) for steps in NO_STEPS] + [
                None, (), "same", ("same",), ("same", ()), ("same", (0,)), ("same", (0, 0)), ("same", (1, 1)), ("same", (0, 2)),
                ("same", (0, -1)), ("same", (0, 1, 2)), ("same", [0, 1]), ("same", (0, True)), ("same", (False, 1)),
                ("same", ("0", "1")), ("same", ((0,), (1,))), ("same", (0, 1), ()), ["same", (0, 1)], ("Same", (0, 1)),
                ("same", {0: 0, 1: 1}), ("same", (None, 0)), ("parts",), ("parts", (0, 1)), ("parts", ("a",), ()),
                ["parts", ("a",)], ("same", ("a",)), (("same",), (0, 1))]:
            self.assertEqual(kept(judge_rename, HASB, HASB, value), ("form",), value)

    def test_form_by_the_numbers_of_answers_of_the_least_readers(self):
        self.assertEqual([judge_rename(BOTH, HASB, ("same", names)) for names in ((0, 1), (0, 1, 2), (1, 0))],
                         [None, ("form",), ("lacks", "a")])
        for one, other in [(HASB, THREE), (THREE, HASB)]:
            for names in [(0,), (0, 1), (0, 1, 2), (1, 0, 1), (0, 0, 1)]:
                self.assertEqual(judge_rename(one, other, ("same", names)), ("form",))

    def test_against_the_document(self):
        rng, seen = random.Random(104), set()
        for one, other in some_two()[::2]:
            n = len(least(one)[0][0])
            values = [rename(one, other), ("same", tuple(rng.sample(range(n), n))), ("parts", random_steps(rng, 3, "abc"))]
            for value in papers(("same", "parts"), values):
                told = judged_as_told(one, other, value)
                seen.add(told and told[0])
                self.assertEqual(kept(judge_rename, one, other, value), told, (one, other, value))
        self.assertLessEqual({None, "form", "lacks", "letter", "pair"}, seen)


if __name__ == "__main__":
    unittest.main()
