"""[6.3], [6.4] and the classes of [6.5]: fair sharings out, surroundings that part, and who tells it rightly."""

import random
import unittest
from itertools import combinations

from everrows.apart import classes, judge_part, part
from everrows.surrounding import answer_round, is_surroundings
from tests.roundmaking import (answer_round_as_told, classes_as_told, first_unlike_as_told, is_fair, random_surroundings,
                               reached_as_told, sharings, surroundings_as_told)
from tests.rowmaking import kept
from tests.stepmaking import NO_STEPS, papers
from tests.tablemaking import FIRST, LAWFUL, ONE, SIX, WIDE, WORD, fault_as_told, random_reader, subsets

MANY = LAWFUL[5]
LETTERS = (("a", 0), ("b", 1))
THREE, LONE = (MANY, LETTERS, (1,)), (MANY, (("a", 0),), (0,))


def some_readers():
    rng = random.Random(90)
    readers = [THREE, (MANY, LETTERS, (1, 2)), (MANY, LETTERS, ()), (MANY, (("a", 0),), (0,)), (ONE, (("a", 0),), ())]
    readers += [random_reader(rng, "abcde"[:rng.randint(1, 5)], [table]) for table in LAWFUL + WIDE for _ in range(3)]
    return readers


def pairs_of(reader):
    known = reached_as_told(reader)
    return [(s, t) for s in known for t in known]


def judged_as_told(reader, s, t, value):
    """[6.4], straight from the document."""
    yes, n, known = reader[2], len(reader[0][0]), reached_as_told(reader)
    if type(value) is not tuple or len(value) != 2 or type(value[0]) is not str:
        return ("form",)
    told = value[1]
    if value[0] == "parts" and surroundings_as_told(told):
        rows = [steps for one in told for steps in (one[1] if one[0] == "mixed" else one[1:])]
        for entry in [entry for steps in rows for entry in steps]:
            if isinstance(entry, str) and entry not in dict(reader[1]):
                return ("letter", entry)
        a, b = (answer_round_as_told(reader, one, told) for one in (s, t))
        return ("answers", (a, b)) if (a in yes) == (b in yes) else None
    right = type(told) is tuple and told != () and all(repr(lot) in [repr(known) for known in subsets(n)] for lot in told)
    if value[0] != "alike" or not right or any(one[0] >= other[0] for one, other in zip(told, told[1:])):
        return ("form",)
    for x in range(n):
        if sum(x in lot for lot in told) != (x in known):
            return ("reached", x)
    for k, lot in enumerate(told):
        if any(x in yes for x in lot) and any(x not in yes for x in lot):
            return ("yes", k)
    if not any(s in lot and t in lot for lot in told):
        return ("apart",)
    for lot in told:
        for x, y in zip(lot, lot[1:]):
            fault = first_unlike_as_told(reader, told, x, y)
            if fault:
                return fault
    return None


class Classes(unittest.TestCase):
    def test_the_fewest_of_all_fair_ones(self):
        many = set()
        for reader in some_readers():
            told, fair = classes_as_told(reader)
            many.add((len(reached_as_told(reader)), len(told)))
            self.assertEqual(kept(classes, reader), told, reader)
            self.assertEqual(sum(len(one) == len(told) for one in fair), 1)
        self.assertGreater(len(many), 8)

    def test_by_name(self):
        told = [((MANY, LETTERS, (1, 2)), ((0,), (1, 2))), (THREE, ((0,), (1,), (2,))), ((MANY, LETTERS, ()), ((0, 1, 2),)),
                ((MANY, (("a", 0),), (0,)), ((0,),)), ((MANY, (("a", 1), ("b", 2)), (2,)), ((1,), (2,))),
                ((WIDE[3], (("a", 1),), (1, 3, 5)), ((1,), (2,), (3,), (4,), (5,))),
                ((WIDE[6], (("a", 1),), (0, 1, 2, 3, 4)), ((0, 1, 2, 3, 4), (5,))), ((SIX, (("a", 5),), ()), ((3, 5),)),
                ((WIDE[0], (("a", 3),), (1, 3)), ((0, 2), (1, 3)))]
        for reader, sharing in told:
            self.assertEqual(kept(classes, reader), sharing)

    def test_by_least_answers_and_not_by_numbers(self):
        self.assertEqual(classes((FIRST, (("a", 0), ("b", 1), ("c", 2)), (1,))), ((0, 2), (1,)))
        self.assertEqual(classes((FIRST, (("a", 0), ("b", 1), ("c", 2)), (0, 2))), ((0, 2), (1,)))


class Parted(unittest.TestCase):
    def test_just_one_of_both_is_there(self):
        words = set()
        for reader in some_readers():
            sharing, _ = classes_as_told(reader)
            for s, t in pairs_of(reader):
                value = kept(part, reader, s, t)
                words.add(value[0])
                alike = any(s in lot and t in lot for lot in sharing)
                self.assertEqual(value[0], "alike" if alike else "parts", (reader, s, t))
                self.assertIsNone(judged_as_told(reader, s, t, value), (reader, s, t, value))
                self.assertIsNone(kept(judge_part, reader, s, t, value))
                self.assertEqual(part(reader, s, t), value)
                if not alike:
                    self.assertIs(is_surroundings(value[1]), True)
                    self.assertLessEqual(len(value[1]), 5)
                    come = [answer_round(reader, one, value[1]) in reader[2] for one in (s, t)]
                    self.assertEqual(sorted(come), [False, True])
        self.assertEqual(words, {"parts", "alike"})

    def test_two_surroundings(self):
        reader = (WORD, (("a", 1), ("b", 2)), (5,))
        self.assertEqual(classes(reader), tuple((s,) for s in range(6)))
        for s, t in [(0, 2), (2, 0)]:
            value = kept(part, reader, s, t)
            self.assertEqual([value[0], sorted(one[0] for one in value[1])], ["parts", ["ahead", "behind"]])
            self.assertIsNone(judge_part(reader, s, t, value))
            for one in value[1]:
                self.assertEqual(judge_part(reader, s, t, ("parts", (one,)))[0], "answers")
        self.assertEqual([len(part(reader, s, t)[1]) for s in range(6) for t in range(s)],
                         [1, 2, 1, 1, 1, 1, 1, 1, 1, 1, 0, 0, 0, 0, 0])

    def test_one_answer_twice(self):
        for reader in some_readers():
            for s in reached_as_told(reader):
                value = kept(part, reader, s, s)
                self.assertEqual(value[0], "alike")
                self.assertIsNone(judge_part(reader, s, s, value))
                sides = ("parts", random_surroundings(random.Random(91), 3, letters="a"))
                a = answer_round(reader, s, sides[1])
                self.assertEqual(judge_part(reader, s, s, sides), ("answers", (a, a)))

    def test_answers_that_are_not_reached_part_nothing(self):
        reader = (MANY, (("a", 0), ("b", 2)), (2,))
        self.assertEqual([classes(reader), part(reader, 0, 0)[1]], [((0,), (2,))] * 2)
        reader = (WIDE[6], (("a", 5),), ())
        self.assertEqual([classes(reader), part(reader, 5, 5)], [((5,),), ("alike", ((5,),))])


class Judged(unittest.TestCase):
    def test_each_fault_of_surroundings(self):
        for s, t, value, told in [
                (0, 1, (("ahead", ("c",)), ("behind", ("d",))), ("letter", "c")),
                (0, 1, (("right",), ("mixed", (("a",), ("b", "e", "c"))), ("ahead", ("d",))), ("letter", "e")),
                (0, 1, (), None), (1, 0, (), None), (0, 2, (), ("answers", (0, 2))), (2, 0, (), ("answers", (2, 0))),
                (0, 1, (("right",),), None), (0, 2, (("left",),), ("answers", (0, 2))), (0, 2, (("ahead", ("b",)),), None), (0, 2, (("behind", ("b",)),), None),
                (0, 1, (("ahead", ("b",)),), ("answers", (1, 1))), (0, 2, (("mixed", ()),), ("answers", (0, 2))),
                (0, 1, (("behind", ("a",)),), None), (1, 1, (), ("answers", (1, 1)))]:
            self.assertEqual(kept(judge_part, THREE, s, t, ("parts", value)), told, value)

    def test_each_fault_of_classes(self):
        six = (WIDE[6], (("a", 2),), (0, 2, 4))
        for reader, s, t, value, told in [
                (THREE, 0, 0, ((1,), (2,)), ("reached", 0)), (THREE, 0, 0, ((0, 1), (1, 2)), ("reached", 1)),
                (THREE, 0, 1, ((0, 1),), ("reached", 2)), (LONE, 0, 0, ((0, 1),), ("reached", 1)),
                (LONE, 0, 0, ((1,),), ("reached", 0)), (LONE, 0, 0, ((0,), (2,)), ("reached", 2)),
                (THREE, 0, 1, ((0,), (1, 2)), ("yes", 1)), (THREE, 0, 1, ((0, 1), (2,)), ("yes", 0)),
                (THREE, 0, 1, ((0, 2), (1,)), ("apart",)), (THREE, 0, 2, ((0, 2), (1,)), ("ahead", 0, 2, 1)),
                (THREE, 1, 1, ((0, 2), (1,)), ("ahead", 0, 2, 1)), (THREE, 1, 1, ((0,), (1,), (2,)), None),
                (LONE, 0, 0, ((0,),), None), (six, 0, 2, ((0, 2, 4), (1, 3, 5)), ("ahead", 0, 2, 3)),
                (six, 1, 3, ((0,), (1, 3, 5), (2, 4)), ("ahead", 1, 3, 2))]:
            self.assertEqual(kept(judge_part, reader, s, t, ("alike", value)), told, (reader, value))

    def test_each_dealing_ahead_of_the_next_ones(self):
        """Tables with one dealing each that parts the neighbours 0 and 1; 2 and 3 are in classes of their own."""
        two = ((2, 2, 2, 2),) * 4
        last = tuple(3 if lot == (0, 2) else 2 for lot in subsets(4))
        alone = tuple(3 if lot == (0,) else 2 for lot in subsets(4))
        pairs = tuple(3 if lot == (0, 1) else 2 for lot in subsets(4))
        for table, told in [
                (((2, 2, 2, 2), (2, 2, 2, 2), (2, 3, 2, 2), (3, 2, 2, 2)), ("ahead", 0, 1, 2)),
                (((2, 2, 3, 2), (2, 2, 2, 2), (2, 3, 2, 2), (3, 2, 2, 2)), ("ahead", 0, 1, 2)),
                (((2, 2, 2, 2), (2, 2, 2, 3), (2, 2, 2, 2), (2, 2, 2, 2)), ("behind", 0, 1, 3)),
                (((2, 2, 3, 2), (2, 2, 2, 3), (2, 2, 2, 2), (2, 2, 2, 2)), ("behind", 0, 1, 2))]:
            self.check((table, (3, 2, 2, 2), (3, 2, 2, 2), last), told)
        for right, left, mixed, told in [
                ((3, 2, 2, 2), (3, 2, 2, 2), last, ("right", 0, 1)), ((2, 2, 2, 3), (2, 3, 2, 2), last, ("left", 0, 1)),
                ((2, 2, 2, 3), (3, 3, 2, 2), alone, ("mixed", 0, 1, ())), ((2, 2, 2, 3), (2, 2, 2, 2), pairs, ("mixed", 0, 1, (0,))),
                ((2, 2, 2, 3), (2, 2, 2, 2), last, ("mixed", 0, 1, (2,)))]:
            self.check((two, right, left, mixed), told)
        self.check((two, (2, 2, 2, 3), (2,) * 4, (2,) * 15), None)

    def check(self, table, told):
        # The judge asks for no rules, so a table that breaks some will do.
        reader = (table, (("a", 0), ("b", 1), ("c", 2), ("d", 3)), ())
        sharing = ((0, 1), (2,), (3,))
        self.assertIsNone(fault_as_told(table, (0, 1, 2, 3)))
        self.assertEqual(judged_as_told(reader, 2, 2, ("alike", sharing)), told)
        self.assertEqual(kept(judge_part, reader, 2, 2, ("alike", sharing)), told)

    def test_neighbours_class_by_class(self):
        for right, told in [((4, 3, 3, 2, 3), ("right", 0, 2)), ((2, 3, 4, 2, 3), ("right", 2, 4)), ((2, 2, 4, 3, 2), ("right", 1, 3)),
                            ((1, 3, 3, 2, 1), ("right", 1, 3)), ((2, 3, 4, 1, 0), None)]:
            reader = ((((2,) * 5,) * 5, right, (2,) * 5, (2,) * 31), tuple(zip("abcde", range(5))), ())
            self.assertEqual(judged_as_told(reader, 0, 0, ("alike", ((0, 2, 4), (1, 3)))), told)
            self.assertEqual(kept(judge_part, reader, 0, 0, ("alike", ((0, 2, 4), (1, 3)))), told)

    def test_form(self):
        for value in [("parts", (("ahead", steps),)) for steps in NO_STEPS] + [
                None, (), "alike", ("alike",), ("alike", ()), ("alike", [(0,), (1,), (2,)]), ("alike", ([0], (1,), (2,))),
                ("alike", (0, 1, 2)), ("alike", ((), (0, 1, 2))), ("alike", ((1,), (0,), (2,))), ("alike", ((0,), (0,), (1,))),
                ("alike", ((0, 2), (0, 1))), ("alike", ((1, 0), (2,))), ("alike", ((0,), (1,), (2, 3))), ("alike", ((0,), (True,), (2,))),
                ("alike", ((False,), (1,), (2,))), ("alike", ((-1,), (0,), (1,), (2,))), ("alike", ((0, 0), (1,), (2,))),
                ("alike", ((0,), (1,), (2,)), ()), ["alike", ((0,), (1,), (2,))], ("Alike", ((0,), (1,), (2,))), ("parts",),
                ("parts", None), ("parts", [("right",)]), ("parts", ("right",)), ("parts", (("right", 0),)), ("parts", (), ()),
                ["parts", ()], ("parts", ((0,), (1,), (2,))), ("alike", (("right",),)), (("parts",), ()), ("alike", "abc")]:
            self.assertEqual(kept(judge_part, THREE, 0, 0, value), ("form",), value)

    def test_against_the_document(self):
        rng, seen = random.Random(92), set()
        for reader in some_readers()[::2]:
            known, n = reached_as_told(reader), len(reader[0][0])
            s, t = rng.choice(known), rng.choice(known)
            values = [part(reader, s, t), ("parts", random_surroundings(rng, 2, 2)), ("alike", (tuple(range(n)),))]
            for value in papers(("parts", "alike"), values):
                told = judged_as_told(reader, s, t, value)
                seen.add(told and told[0])
                self.assertEqual(kept(judge_part, reader, s, t, value), told, (reader, s, t, value))
        self.assertLessEqual({None, "form", "letter", "answers", "reached", "yes"}, seen)

    def test_all_sharings_out(self):
        rng, seen = random.Random(93), set()
        for reader in some_readers():
            known = reached_as_told(reader)
            s, t = rng.choice(known), rng.choice(known)
            for sharing in sharings(known):
                sharing = tuple(sorted(sharing))
                told = judged_as_told(reader, s, t, ("alike", sharing))
                seen.add(told and told[0])
                self.assertEqual(kept(judge_part, reader, s, t, ("alike", sharing)), told)
                together = any(s in lot and t in lot for lot in sharing)
                self.assertEqual(told is None, together and is_fair(reader, sharing))
        self.assertLessEqual({None, "yes", "apart", "ahead", "behind"}, seen)

    def test_any_fair_one(self):
        told = [reader for reader in some_readers() if len(classes_as_told(reader)[1]) > 1]
        self.assertGreater(len(told), 10)
        for reader in told:
            for sharing in classes_as_told(reader)[1]:
                for s, t in combinations(reached_as_told(reader), 2):
                    value = judge_part(reader, s, t, ("alike", tuple(sorted(sharing))))
                    self.assertEqual(value, None if any(s in lot and t in lot for lot in sharing) else ("apart",))


if __name__ == "__main__":
    unittest.main()
