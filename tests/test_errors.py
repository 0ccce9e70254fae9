"""[0.2] and the interface of everrows.errors: which errors there are, and what they bear."""

import copy
import pickle
import unittest

from everrows import errors

BEARING = [("BadText", "place"), ("UnknownLetter", "letter"), ("NotClosed", "fault"), ("BadName", "name"),
           ("Clash", "names"), ("UnknownName", "name"), ("NoMoment", "number")]
ROW_ERRORS = ["TooMany", "BadDeed", "NothingDone", "BadText", "UnknownLetter", "NotClosed", "BadName", "Clash"]
MISSING = ["UnknownName", "NoMoment"]


def held(value):
    """The places of memory of all lists and dicts in a value."""
    if isinstance(value, (list, tuple)):
        inner = [one for part in value for one in held(part)]
    elif isinstance(value, dict):
        inner = [one for part in value.values() for one in held(part)]
    else:
        inner = []
    return inner + ([id(value)] if isinstance(value, (list, dict)) else [])


class Families(unittest.TestCase):
    def test_bases(self):
        self.assertEqual(errors.RowError.__bases__, (ValueError,))
        self.assertEqual(errors.Missing.__bases__, (LookupError,))
        for name in ROW_ERRORS:
            self.assertEqual(getattr(errors, name).__bases__, (errors.RowError,), name)
        for name in MISSING:
            self.assertEqual(getattr(errors, name).__bases__, (errors.Missing,), name)

    def test_those_that_bear_nothing(self):
        for name in ("TooMany", "BadDeed", "NothingDone"):
            self.assertEqual(vars(getattr(errors, name)()), {}, name)


class Borne(unittest.TestCase):
    VALUES = [0, 1, True, False, None, -3, 10 ** 39, "", "a", (), [], {}, (1, True), [1, True], ([1], {"a": [2]}),
              [[(["deep"],)], []], {"a": {"b": ([0, False],)}, (1, "x"): [None]}, ("both", 0, 1), ("mixed", (0, 1))]

    def test_each_attribute(self):
        for name, attribute in BEARING:
            for value in self.VALUES:
                error = getattr(errors, name)(value)
                self.assertEqual(repr(getattr(error, attribute)), repr(value), name)
                self.assertEqual(list(vars(error)), [attribute])

    def test_no_list_or_dict_is_kept(self):
        for name, attribute in BEARING:
            for value in self.VALUES:
                error = getattr(errors, name)(value)
                here = held(value)
                self.assertFalse(set(here) & set(held(getattr(error, attribute))), (name, value))
                self.assertFalse(set(here) & set(held(error.args)), (name, value))

    def test_changes_of_the_passed_value_do_not_reach_the_error(self):
        inner = ["a"]
        passed = {"k": (inner, [inner])}
        error = errors.UnknownName(passed)
        inner.append("b")
        passed["j"] = 1
        self.assertEqual(error.name, {"k": (["a"], [["a"]])})

    def test_one_list_that_is_passed_twice_is_copied_twice(self):
        inner = []
        told = errors.BadName([inner, inner]).name
        self.assertIsNot(told[0], told[1])

    def test_a_value_with_many_parts_within_one_another(self):
        value = 1
        for _ in range(2000):
            value = [value]
        told = errors.BadName(value).name
        for _ in range(2000):
            self.assertIsInstance(told, list)
            self.assertIsNot(told, value)
            told, value = told[0], value[0]
        self.assertEqual(told, 1)

    def test_caught_by_its_family_and_copied(self):
        with self.assertRaises(errors.RowError):
            raise errors.BadText(3)
        with self.assertRaises(errors.Missing):
            raise errors.NoMoment([3])
        error = errors.NoMoment([3])
        for other in (copy.copy(error), copy.deepcopy(error), pickle.loads(pickle.dumps(error))):
            self.assertEqual(other.number, [3])


if __name__ == "__main__":
    unittest.main()
