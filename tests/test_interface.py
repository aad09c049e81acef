"""Promises 7 to 9: every name of the interface, its arguments, and the file in which it is defined."""

import importlib
import inspect
import unittest

from leastreasons import errors

FUNCTIONS = {
    "leastreasons.sheets": {
        "is_sizes": ["value"],
        "count_cases": ["sizes"],
        "is_small": ["sizes"],
        "nth_case": ["sizes", "index"],
        "case_index": ["sizes", "case"],
        "completing": ["sizes", "half"],
        "differing": ["sizes", "case", "second_case"],
    },
    "leastreasons.forms": {
        "is_form": ["sizes", "value"],
        "is_plain_tree": ["sizes", "value"],
        "answer": ["sizes", "form", "case"],
        "answers": ["sizes", "form"],
        "measure": ["sizes", "form"],
        "named_fields": ["sizes", "form"],
        "ordered_tree": ["sizes", "form"],
        "fixed": ["sizes", "form", "half"],
    },
}

ERRORS = [
    "InvalidSizes", "InvalidForm", "InvalidCase", "InvalidHalf", "InvalidField", "InvalidFields", "InvalidCosts",
    "InvalidAnswer", "InvalidIndex", "InvalidFamily", "InvalidMembers", "InvalidValue", "InvalidConditions",
    "InvalidCommand", "NotSmall", "NoTree", "NoCard", "NoRules", "NoReason", "NoTurn", "NotYes", "OtherSheet",
    "NothingToUndo",
]


class FunctionsTest(unittest.TestCase):
    def test_each_function_stands_in_its_file_with_its_arguments(self):
        for module_name, functions in FUNCTIONS.items():
            module = importlib.import_module(module_name)
            for name, parameters in functions.items():
                function = getattr(module, name)
                self.assertTrue(inspect.isfunction(function), name)
                self.assertEqual(function.__module__, module_name, name)
                self.assertEqual(function.__name__, name)
                told = inspect.signature(function).parameters
                self.assertEqual(list(told), parameters, name)
                for parameter in told.values():
                    self.assertEqual(parameter.kind, inspect.Parameter.POSITIONAL_OR_KEYWORD, name)
                    self.assertIs(parameter.default, inspect.Parameter.empty, name)


class ErrorsTest(unittest.TestCase):
    def test_the_error_above_all_others(self):
        self.assertEqual(errors.ReasonError.__bases__, (ValueError,))
        self.assertEqual(errors.ReasonError.__module__, "leastreasons.errors")
        with self.assertRaises(ValueError):
            raise errors.ReasonError("odd")

    def test_each_other_error_is_directly_under_it(self):
        for name in [*ERRORS, "InvalidText"]:
            kind = getattr(errors, name)
            self.assertEqual(kind.__bases__, (errors.ReasonError,), name)
            self.assertEqual(kind.__module__, "leastreasons.errors", name)
            self.assertEqual(kind.__name__, name)

    def test_no_error_is_under_another_one(self):
        kinds = [getattr(errors, name) for name in [*ERRORS, "InvalidText"]]
        for kind in kinds:
            for other in kinds:
                self.assertEqual(issubclass(kind, other), kind is other)

    def test_each_is_made_with_one_string(self):
        for name in ["ReasonError", *ERRORS]:
            kind = getattr(errors, name)
            made = kind("what is wrong")
            self.assertIs(made.__class__, kind)
            with self.assertRaises(kind):
                raise made

    def test_a_text_error_keeps_its_place(self):
        for place in (0, 1, 7, 4000):
            self.assertEqual(errors.InvalidText(place).place, place)
            self.assertEqual(errors.InvalidText(place=place).place, place)
        with self.assertRaises(errors.InvalidText) as caught:
            raise errors.InvalidText(12)
        self.assertEqual(caught.exception.place, 12)
        self.assertNotEqual(errors.InvalidText(1).place, errors.InvalidText(2).place)


if __name__ == "__main__":
    unittest.main()
