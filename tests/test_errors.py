"""Section 1: the error classes."""

import inspect
import unittest

from indexturns import errors

WITH_FIELD = {"InvalidTargets": "item", "InvalidPlaces": "item", "InvalidTurns": "item", "InvalidSeen": "item",
              "InvalidText": "part", "OverBudget": "total"}
OTHERS = ["InvalidTurn", "InvalidFlips", "InvalidBits", "InvalidPlace", "InvalidNumber", "InvalidPages", "InvalidWord",
          "InvalidBudget", "UnlikeBits", "UnlikeWords", "InvalidOperation", "Nothing", "InvalidCommand"]
NAMES = list(WITH_FIELD) + OTHERS


class ErrorsTest(unittest.TestCase):
    def test_base_is_a_value_error(self):
        self.assertEqual(errors.TurnError.__bases__, (ValueError,))
        self.assertEqual(errors.TurnError.__module__, "indexturns.errors")

    def test_each_class_is_defined_here_right_below_the_base(self):
        for name in NAMES:
            error_class = getattr(errors, name)
            self.assertEqual((error_class.__name__, error_class.__module__), (name, "indexturns.errors"))
            self.assertEqual(error_class.__bases__, (errors.TurnError,))

    def test_there_are_no_other_classes(self):
        found = [name for name, _ in inspect.getmembers(errors, inspect.isclass)]
        self.assertEqual(sorted(found), sorted(NAMES + ["TurnError"]))

    def test_none_is_a_subclass_of_another_one(self):
        for name in NAMES:
            for other in NAMES:
                if name != other:
                    self.assertFalse(issubclass(getattr(errors, name), getattr(errors, other)), (name, other))

    def test_fields(self):
        for name, field in WITH_FIELD.items():
            for value in (None, 0, 3, 10 ** 100):
                error = getattr(errors, name)(value)
                self.assertEqual(getattr(error, field), value)
                self.assertEqual(vars(error), {field: value})
            with self.assertRaises(TypeError):
                getattr(errors, name)()

    def test_the_others_take_a_string(self):
        for name in ["TurnError"] + OTHERS:
            self.assertEqual(str(getattr(errors, name)("some words")), "some words")

    def test_they_are_caught_as_the_base_and_as_value_errors(self):
        for name in NAMES:
            for caught in (errors.TurnError, ValueError):
                with self.assertRaises(caught):
                    raise getattr(errors, name)("x")


if __name__ == "__main__":
    unittest.main()
