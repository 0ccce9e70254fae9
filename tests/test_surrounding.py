"""[6.1] and [6.2]: surroundings, rows with them put round, and the answers that come."""

import random
import unittest

from everrows.rows import size_of
from everrows.steps import is_steps, row_of
from everrows.surrounding import answer_round, is_surroundings, put_round
from tests.roundmaking import answer_round_as_told, random_surroundings, surroundings_as_told
from tests.rowmaking import ODD_VALUES, kept, nearly
from tests.stepmaking import NO_STEPS, answers_of_steps, numbers_of, random_steps, row_as_told
from tests.tablemaking import LAWFUL, ONE, SEES, SIX, random_reader


def put_round_as_told(steps, surroundings):
    """[6.2], straight from the document."""
    found = list(steps)
    for word, *told in surroundings:
        i, lasts = len(found) - 1, []
        for row in (told[0] if word == "mixed" else told):
            by = len(found)
            for entry in row:
                if isinstance(entry, str):
                    found.append(entry)
                elif entry[0] == "mix":
                    found.append(("mix", tuple(k + by for k in entry[1])))
                else:
                    found.append((entry[0],) + tuple(k + by for k in entry[1:]))
            lasts.append(len(found) - 1)
        found.append({"ahead": ("join", *lasts, i), "behind": ("join", i, *lasts), "right": ("right", i), "left": ("left", i),
                      "mixed": ("mix", (i, *lasts))}[word])
    return tuple(found)


def row_put_round(row, surroundings):
    """The row that put_round tells, told as a row."""
    for word, *told in surroundings:
        if word in ("right", "left"):
            row = (word, row)
        elif word == "mixed":
            row = ("mix", (row,) + tuple(row_as_told(steps) for steps in told[0]))
        else:
            other = row_as_told(told[0])
            row = ("join", (other, row) if word == "ahead" else (row, other))
    return row


class AreSurroundings(unittest.TestCase):
    def test_surroundings(self):
        for value in [(), (("right",),), (("left",), ("left",)), (("ahead", ("a",)),), (("behind", ("a", ("right", 0))),),
                      (("mixed", ()),), (("mixed", (("a",), ("b", ("left", 0)))),), (("right",),) * 30]:
            self.assertIs(kept(is_surroundings, value), True)
        rng = random.Random(80)
        for _ in range(100):
            self.assertIs(is_surroundings(random_surroundings(rng, 5)), True)

    def test_what_is_none(self):
        for part in [(), ("right", ()), ("right", 0), ("right", ("a",)), ("left", ("a",)), ["right"], ("Right",), ("ahead",), ("behind",),
                     ("mixed",), ("ahead", ("a",), ("b",)), ("ahead", "a"), ("ahead", ()), ("behind", ("a", ("right", True))),
                     ("mixed", ("a",)), ("mixed", "a"), ("mixed", [("a",)]), ("mixed", (["a"],)), ("mixed", (("a",), ())),
                     ("mixed", (("a",),), ()), ("mixed", None), (("right",),), "right", None, 0, True, ("join", ("a",)), ("mix", ()),
                     ("ahead", (("a",),)), ["ahead", ("a",)], {"right": 1}, (["right"],), ((),), (("ahead",), ("a",))]:
            self.assertIs(kept(is_surroundings, (part,)), False, part)
            self.assertIs(is_surroundings((("right",), part)), False, part)
        for value in [[], [("right",)], ("right",), "right", None, 0, ("ahead", ("a",)), {}, {("right",): 1}]:
            self.assertIs(kept(is_surroundings, value), False, value)
        for steps in NO_STEPS:
            for part in [("ahead", steps), ("behind", steps), ("mixed", (steps,)), ("mixed", (("a",), steps))]:
                self.assertIs(kept(is_surroundings, (part,)), False, part)
        for value in ODD_VALUES:
            for whole in (value, (value,), (("ahead", value),), (("mixed", value),), (("mixed", (value,)),), ((value, ("a",)),)):
                self.assertIs(kept(is_surroundings, whole), surroundings_as_told(whole), whole)

    def test_one_change(self):
        rng = random.Random(81)
        for _ in range(60):
            for value in nearly(random_surroundings(rng, 2, 3)):
                self.assertIs(kept(is_surroundings, value), surroundings_as_told(value), value)


class PutRound(unittest.TestCase):
    def test_word_by_word(self):
        for surroundings, told in [
                ((), ("a", ("right", 0))),
                ((("right",), ("left",)), ("a", ("right", 0), ("right", 1), ("left", 2))),
                ((("ahead", ("a", "a")),), ("a", ("right", 0), "a", "a", ("join", 3, 1))),
                ((("behind", ("b", ("mix", (0,)))),), ("a", ("right", 0), "b", ("mix", (2,)), ("join", 1, 3))),
                ((("mixed", ()),), ("a", ("right", 0), ("mix", (1,)))),
                ((("mixed", (("b",), ("c", ("join", 0, 0)), ("a",))), ("right",)),
                 ("a", ("right", 0), "b", "c", ("join", 3, 3), "a", ("mix", (1, 2, 4, 5)), ("right", 6))),
                ((("mixed", (("a", "b", ("mix", (0, 1))),)), ("ahead", ("a", "b", ("mix", (0, 1)))), ("behind", ("a",))),
                 ("a", ("right", 0), "a", "b", ("mix", (2, 3)), ("mix", (1, 4)), "a", "b", ("mix", (6, 7)), ("join", 8, 5), "a",
                  ("join", 9, 10)))]:
            self.assertEqual(kept(put_round, ("a", ("right", 0)), surroundings), told)

    def test_against_the_document(self):
        rng = random.Random(82)
        for _ in range(200):
            steps, surroundings = random_steps(rng, rng.randint(1, 6)), random_surroundings(rng, rng.randint(0, 5))
            told = kept(put_round, steps, surroundings)
            self.assertEqual(told, put_round_as_told(steps, surroundings))
            self.assertIs(is_steps(told), True)
            row = row_put_round(row_as_told(steps), surroundings)
            if size_of(row) <= 200:
                self.assertEqual(row_of(told), row)
            self.assertTrue(all(numbers_of(entry) == numbers_of(old) for entry, old in zip(told, steps)))

    def test_the_answer_is_that_of_the_answer(self):
        rng = random.Random(83)
        for _ in range(300):
            reader, steps = random_reader(rng), random_steps(rng, rng.randint(1, 6))
            surroundings = random_surroundings(rng, rng.randint(0, 12))
            s = answers_of_steps(reader, steps)[-1]
            self.assertEqual(answers_of_steps(reader, put_round(steps, surroundings))[-1], answer_round(reader, s, surroundings))


class AnswerRound(unittest.TestCase):
    def test_each_word(self):
        table = LAWFUL[8]
        reader = (table, (("a", 1), ("b", 2)), ())
        for s in range(3):
            for part, told in [(("ahead", ("a",)), table[0][1][s]), (("ahead", ("b", "a", "b")), table[0][2][s]),
                               (("behind", ("a",)), table[0][s][1]), (("behind", ("b", ("right", 0))), table[0][s][table[1][2]]),
                               (("right",), table[1][s]), (("left",), table[2][s]), (("mixed", ()), table[3][2 ** s - 1]),
                               (("mixed", (("a",), ("b",), ("a",))), table[3][sum(2 ** t for t in {s, 1, 2}) - 1])]:
                self.assertEqual(kept(answer_round, reader, s, (part,)), told)
            self.assertEqual(answer_round(reader, s, ()), s)

    def test_from_the_inside_outwards(self):
        table = LAWFUL[5]
        reader = (table, (("a", 0), ("b", 1), ("c", 2)), ())
        self.assertEqual(answer_round(reader, 0, (("mixed", (("b",),)), ("behind", ("b",)))), 2)
        self.assertEqual(answer_round(reader, 0, (("behind", ("b",)), ("mixed", (("b",),)))), 1)

    def test_against_the_document(self):
        rng = random.Random(84)
        for _ in range(300):
            reader, surroundings = random_reader(rng), random_surroundings(rng, rng.randint(0, 6))
            for s in range(len(reader[0][0])):
                self.assertEqual(kept(answer_round, reader, s, surroundings), answer_round_as_told(reader, s, surroundings))

    def test_of_one_and_of_six_answers(self):
        self.assertEqual(answer_round((ONE, (("a", 0),), ()), 0, (("mixed", (("a",),)), ("left",))), 0)
        self.assertEqual([answer_round((SIX, (("a", 3),), ()), s, (("ahead", ("a",)),)) for s in range(6)], [3] * 6)
        self.assertEqual([answer_round((SIX, (("a", 3),), ()), s, (("behind", ("a",)),)) for s in range(6)], [3, 4, 5, 3, 4, 5])
        self.assertEqual(answer_round(SEES, 0, (("behind", ("b",)), ("ahead", ("a",)))), 1)


if __name__ == "__main__":
    unittest.main()
