"""[4.1], [4.2] and [4.3]: steps, their rows and letters, tidied steps, and how readers answer them."""

import random
import unittest

from everrows.errors import RowError, TooMany
from everrows.readers import answer
from everrows.rows import size_of
from everrows.steps import is_steps, letters_in, row_of, step_answers, tidied
from tests.rowmaking import ODD_VALUES, kept, nearly
from tests.stepmaking import NO_STEPS, answers_of_steps, numbers_of, random_steps, row_as_told, steps_as_told
from tests.tablemaking import LAWFUL, ONE, SEES, SIX, random_reader

DOUBLING = ("a",) + tuple(("join", k, k) for k in range(60))


def tidied_as_told(steps):
    """[4.2], straight from the document."""
    kept_ones, stands_for = [], {}
    for k, entry in enumerate(steps):
        if not isinstance(entry, str):
            numbers = [stands_for[i] for i in numbers_of(entry)]
            entry = ("mix", tuple(sorted(set(numbers)))) if entry[0] == "mix" else (entry[0], *numbers)
        if entry not in kept_ones:
            kept_ones.append(entry)
        stands_for[k] = kept_ones.index(entry)
    needed, waiting = set(), [stands_for[len(steps) - 1]]
    while waiting:
        k = waiting.pop(0)
        needed.add(k)
        waiting += numbers_of(kept_ones[k])
    order = sorted(needed)
    found = []
    for k in order:
        entry = kept_ones[k]
        if not isinstance(entry, str):
            numbers = tuple(order.index(i) for i in numbers_of(entry))
            entry = (entry[0], numbers) if entry[0] == "mix" else (entry[0],) + numbers
        found.append(entry)
    return tuple(found)


class AreSteps(unittest.TestCase):
    def test_steps(self):
        rng = random.Random(50)
        for value in [("a",), ("z", "a", "z"), ("a", ("join", 0, 0)), ("a", ("right", 0), ("left", 1), ("mix", (0, 2))),
                      ("a", ("mix", (0,))), ("a", "b", ("join", 1, 0), ("join", 0, 1)), DOUBLING,
                      ("a",) * 199 + (("mix", tuple(range(199))),)]:
            self.assertIs(kept(is_steps, value), True)
        for _ in range(200):
            self.assertIs(is_steps(random_steps(rng, rng.randint(1, 12))), True)

    def test_what_is_none(self):
        for value in NO_STEPS:
            self.assertIs(kept(is_steps, value), False, value)
        for value in ODD_VALUES:
            self.assertIs(kept(is_steps, value), steps_as_told(value), value)
            self.assertIs(kept(is_steps, ("a", value)), steps_as_told(("a", value)), value)
            for word in ("join", "right", "left", "mix"):
                for entry in ((word, value), (word, 0, value), (word, value, 0), (word, (value,)), (word, (0, value))):
                    self.assertIs(kept(is_steps, ("a", "b", entry)), steps_as_told(("a", "b", entry)), entry)

    def test_one_change(self):
        rng = random.Random(51)
        for _ in range(60):
            for value in nearly(random_steps(rng, rng.randint(1, 6))):
                self.assertIs(kept(is_steps, value), steps_as_told(value), value)


class RowsOfSteps(unittest.TestCase):
    def test_each_kind(self):
        for steps, row in [(("a",), "a"), (("a", "b"), "b"), (("a", "b", ("join", 1, 0)), ("join", ("b", "a"))),
                           (("a", ("join", 0, 0)), ("join", ("a", "a"))), (("a", ("right", 0)), ("right", "a")),
                           (("b", "a", ("left", 0)), ("left", "b")), (("b", "a", ("mix", (0, 1))), ("mix", ("b", "a"))),
                           (("a", ("mix", (0,)), ("mix", (0, 1))), ("mix", ("a", ("mix", ("a",)))))]:
            self.assertEqual(kept(row_of, steps), row)

    def test_against_the_document(self):
        rng, large = random.Random(52), 0
        for _ in range(400):
            steps = random_steps(rng, rng.randint(1, 30), words=("join", "join", "join", "right", "left", "mix"), few=0.05)
            row = row_as_told(steps)
            if size_of(row) <= 200:
                self.assertEqual(kept(row_of, steps), row)
            else:
                large += 1
                self.assertRaises(TooMany, kept, row_of, steps)
        self.assertGreater(large, 5)

    def test_a_size_of_200_and_of_201(self):
        join = ("a",) + tuple(("join", 0, k) for k in range(110))
        rights = ("a",) + tuple(("left" if k % 2 else "right", k) for k in range(210))
        for steps, size in [(join[:100], 199), (join[:100] + (("right", 99),), 200), (join[:101], 201),
                            (rights[:200], 200), (rights[:201], 201),
                            (("a",) * 199 + (("mix", tuple(range(199))),), 200), (("b",) * 200 + (("mix", tuple(range(200))),), 201)]:
            if size <= 200:
                self.assertEqual(size_of(kept(row_of, steps)), size)
            else:
                with self.assertRaises(TooMany) as caught:
                    kept(row_of, steps)
                self.assertIsInstance(caught.exception, RowError)

    def test_it_is_the_size_of_the_last_row_that_counts(self):
        self.assertEqual(row_of(DOUBLING + ("b", ("right", 61))), ("right", "b"))
        self.assertEqual(row_of(DOUBLING + (("mix", (0, 1)),)), ("mix", ("a", ("join", ("a", "a")))))
        self.assertEqual(size_of(row_of(DOUBLING + (("join", 0, 6),))), 129)
        long = ("a",) + tuple(("join", k, k) for k in range(205)) + tuple(("right", 205) for _ in range(3)) + ("c",)
        self.assertEqual(row_of(long), "c")
        for steps in (DOUBLING, DOUBLING[:9], long[:-1], DOUBLING + (("join", 0, 7),), DOUBLING + (("mix", (0, 60)),)):
            self.assertRaises(TooMany, row_of, steps)

    def test_letters(self):
        for steps, letters in [(("b", "a", "b"), ("a", "b")), (("c",), ("c",)), (("z", ("right", 0), "a"), ("a", "z"))]:
            self.assertEqual(kept(letters_in, steps), letters)


class Tidied(unittest.TestCase):
    def test_alike_entries_and_such_as_nothing_needs(self):
        for steps, told in [
                (("a", "b", "a", ("join", 2, 0), ("right", 3)), ("a", ("join", 0, 0), ("right", 1))), (("a", "b", "a"), ("a",)),
                (("a", "b", "b"), ("b",)), (("a", "b", ("mix", (0, 1)), "a", "b", ("mix", (1, 3)), ("join", 2, 5)),
                                            ("a", "b", ("mix", (0, 1)), ("join", 2, 2))),
                (("a", "a", ("mix", (0, 1))), ("a", ("mix", (0,)))),
                (("a", "b", ("right", 1), "b", ("right", 3), ("mix", (2, 4))), ("b", ("right", 0), ("mix", (1,)))),
                (("c", "b", ("right", 0), ("left", 1), "a", ("join", 4, 3)), ("b", ("left", 0), "a", ("join", 2, 1))),
                (("b", "a", "b", "c", ("mix", (1, 2, 3))), ("b", "a", "c", ("mix", (0, 1, 2)))),
                (("a", ("right", 0), "a", "b", ("join", 0, 3), "a"), ("a",))]:
            self.assertEqual(kept(tidied, steps), told)

    def test_against_the_document(self):
        rng = random.Random(53)
        for _ in range(500):
            steps = random_steps(rng, rng.randint(1, 16), letters="ab")
            told = kept(tidied, steps)
            self.assertEqual(told, tidied_as_told(steps))
            self.assertIs(is_steps(told), True)

    def test_twice(self):
        rng = random.Random(54)
        for _ in range(300):
            told = tidied(random_steps(rng, rng.randint(1, 16), letters="ab"))
            self.assertEqual(kept(tidied, told), told)
        self.assertEqual(tidied(DOUBLING), DOUBLING)
        self.assertEqual(tidied(DOUBLING + DOUBLING[:1] + (("join", 61, 0), ("join", 62, 1))), DOUBLING[:3])

    def test_the_row_is_answered_alike(self):
        rng = random.Random(55)
        for _ in range(300):
            reader, steps = random_reader(rng), random_steps(rng, rng.randint(1, 16))
            self.assertEqual(step_answers(reader, tidied(steps))[-1], step_answers(reader, steps)[-1])


class Answered(unittest.TestCase):
    def test_against_the_document(self):
        rng = random.Random(56)
        for _ in range(400):
            reader, steps = random_reader(rng), random_steps(rng, rng.randint(1, 16))
            told = kept(step_answers, reader, steps)
            self.assertEqual(told, answers_of_steps(reader, steps))
            self.assertIs(type(told), tuple)

    def test_as_the_row_is_answered(self):
        rng, small = random.Random(57), 0
        for _ in range(300):
            reader, steps = random_reader(rng), random_steps(rng, rng.randint(1, 9))
            for k in range(1, len(steps) + 1):
                if size_of(row_as_told(steps[:k])) <= 200:
                    small += 1
                    self.assertEqual(step_answers(reader, steps)[k - 1], answer(reader, row_of(steps[:k])))
        self.assertGreater(small, 1000)

    def test_entries_that_double(self):
        self.assertEqual(step_answers(SEES, DOUBLING), (1,) * 61)
        reader = (LAWFUL[5], (("a", 1), ("b", 0)), ())
        self.assertEqual(step_answers(reader, DOUBLING + ("b", ("mix", (59, 60)), ("mix", (60, 61)))), (1,) * 61 + (0, 1, 2))

    def test_of_one_and_of_six_answers(self):
        self.assertEqual(step_answers((ONE, (("a", 0),), ()), ("a", ("right", 0), ("mix", (0, 1)))), (0, 0, 0))
        self.assertEqual(step_answers((SIX, (("a", 5), ("b", 1)), ()), ("b", "a", ("join", 0, 1), ("left", 2), ("mix", (0, 3)))),
                         (1, 5, 4, 3, 3))


if __name__ == "__main__":
    unittest.main()
