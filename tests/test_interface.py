"""Promises 7 to 25: every name of the interface, its arguments, and the file in which it is defined."""

import importlib
import inspect
import unittest

from leastreasons import errors

FUNCTIONS = {
    "leastreasons.sheets": {
        "is_sizes": ["value"],
        "count_cases": ["sizes"],
        "is_small": ["sizes"],
        "nth_case": ["sizes", "index"],
        "case_index": ["sizes", "case"],
        "completing": ["sizes", "half"],
        "differing": ["sizes", "case", "second_case"],
    },
    "leastreasons.forms": {
        "is_form": ["sizes", "value"],
        "is_plain_tree": ["sizes", "value"],
        "answer": ["sizes", "form", "case"],
        "answers": ["sizes", "form"],
        "measure": ["sizes", "form"],
        "named_fields": ["sizes", "form"],
        "ordered_tree": ["sizes", "form"],
        "fixed": ["sizes", "form", "half"],
    },
    "leastreasons.reasons": {
        "forces": ["sizes", "form", "case", "fields"],
        "can_turn": ["sizes", "form", "case", "fields"],
        "reasons": ["sizes", "form", "case"],
        "turns": ["sizes", "form", "case"],
        "needed": ["sizes", "form", "case"],
        "idle": ["sizes", "form", "case"],
        "reason_by": ["sizes", "form", "case", "order"],
        "turned_case": ["sizes", "form", "case", "fields"],
        "reason_cases": ["sizes", "form", "case", "fields"],
        "shows_reason": ["sizes", "form", "case", "fields", "value"],
        "shows_turn": ["sizes", "form", "case", "value"],
        "distance": ["sizes", "form", "case"],
        "cheapest_reason": ["sizes", "form", "case", "costs"],
        "cheapest_turn": ["sizes", "form", "case", "costs"],
    },
    "leastreasons.families": {
        "least_sets": ["size", "family"],
        "meeting": ["size", "family"],
        "meets_all": ["size", "family", "members"],
        "joined": ["size", "one_family", "other_family"],
        "paired": ["size", "one_family", "other_family"],
        "dropped": ["size", "family", "members"],
        "taken": ["size", "family", "members"],
        "in_some": ["size", "family"],
        "in_all": ["size", "family"],
        "count_meeting": ["size", "family"],
        "shortest_meeting": ["size", "family"],
        "apart": ["size", "family"],
    },
    "leastreasons.trees": {
        "ways": ["sizes", "tree"],
        "trimmed": ["sizes", "tree"],
        "tree_forces": ["sizes", "tree", "case", "fields"],
        "tree_turns": ["sizes", "tree", "case"],
        "tree_reason": ["sizes", "tree", "case", "order"],
        "count_tree_yes": ["sizes", "tree"],
        "nth_tree_yes": ["sizes", "tree", "index"],
        "grafted": ["sizes", "tree", "upper", "lower"],
    },
    "leastreasons.cards": {
        "card_sum": ["sizes", "card", "case"],
        "slack": ["sizes", "card", "case"],
        "drops": ["sizes", "card", "case"],
        "sum_range": ["sizes", "card"],
        "card_forces": ["sizes", "card", "case", "fields"],
        "shortest_card_reason": ["sizes", "card", "case"],
        "shortest_card_turn": ["sizes", "card", "case"],
        "count_card_reasons": ["sizes", "card", "case"],
        "count_card_turns": ["sizes", "card", "case"],
        "count_card_yes": ["sizes", "card"],
        "nth_card_yes": ["sizes", "card", "index"],
        "card_fields": ["sizes", "card"],
        "lowered": ["sizes", "card"],
    },
    "leastreasons.rules": {
        "fitting": ["sizes", "conditions"],
        "used_rules": ["sizes", "rules"],
        "spare_rules": ["sizes", "rules"],
        "prime_rules": ["sizes", "form", "result"],
        "needed_rules": ["sizes", "form", "result"],
        "rules_of": ["sizes", "form"],
    },
    "leastreasons.asking": {
        "sure": ["sizes", "form", "half"],
        "outlook": ["sizes", "form", "half"],
        "greatest_reason": ["sizes", "form", "result"],
        "fewest_asks": ["sizes", "form", "half"],
        "first_asks": ["sizes", "form", "half"],
        "ask_plan": ["sizes", "form", "half"],
    },
    "leastreasons.compare": {
        "alike": ["sizes", "one", "other"],
        "within": ["sizes", "one", "other"],
        "parting_case": ["sizes", "one", "other"],
        "count_parted": ["sizes", "one", "other"],
        "count_yes": ["sizes", "form"],
        "nth_yes": ["sizes", "form", "index"],
        "yes_index": ["sizes", "form", "case"],
        "mattering": ["sizes", "form"],
        "swings": ["sizes", "form"],
        "rises": ["sizes", "form", "field"],
    },
    "leastreasons.texts": {
        "write_form": ["sizes", "form"],
        "read_form": ["sizes", "text"],
        "write_case": ["sizes", "half"],
        "read_case": ["sizes", "text"],
    },
}

# Each class with the classes right above it, its methods, each with its arguments, its properties and its operators.
DECIDER_OPERATORS = [
    "__contains__", "__and__", "__or__", "__xor__", "__invert__", "__iand__", "__ior__", "__ixor__", "__eq__", "__ne__",
    "__le__", "__lt__", "__bool__",
]
DECIDER_METHODS = {
    "__init__": "(self, sizes, form)",
    "__call__": "(self, case)",
    "reasons": "(self, case)",
    "turns": "(self, case)",
    "yes_cases": "(self)",
}
DESK_METHODS = {
    "__init__": "(self, sizes, form)",
    "change": "(self, form)",
    "undo": "(self)",
    "reasons": "(self)",
    "missing": "(self)",
    "twin": "(self)",
    "supposing": "(self, *, field, value)",
    "trial": "(self, pairs)",
    "rehearse": "(self, *, field, value, deeds)",
}
BEGIN = {"__init__": "(self, sizes, form)"}
CLASSES = {
    ("leastreasons.deciders", "Decider"): (["object"], DECIDER_METHODS, ["sizes", "form"], DECIDER_OPERATORS),
    ("leastreasons.deciders", "CountingDecider"): (["Decider"], BEGIN, ["asked"], []),
    ("leastreasons.deciders", "NotingDecider"): (["Decider"], BEGIN, ["noted"], []),
    ("leastreasons.deciders", "CountingNotingDecider"): (["CountingDecider", "NotingDecider"], BEGIN, [], []),
    ("leastreasons.desks", "Desk"): (["object"], DESK_METHODS, ["half", "form", "answer", "deeds"],
                                     ["__getitem__", "__setitem__", "__contains__", "__len__"]),
    ("leastreasons.console", "Console"): (["object"], {"__init__": "(self)", "execute": "(self, command)"}, [], []),
}

ERRORS = [
    "InvalidSizes", "InvalidForm", "InvalidCase", "InvalidHalf", "InvalidField", "InvalidFields", "InvalidCosts",
    "InvalidAnswer", "InvalidIndex", "InvalidFamily", "InvalidMembers", "InvalidValue", "InvalidConditions",
    "InvalidCommand", "NotSmall", "NoTree", "NoCard", "NoRules", "NoReason", "NoTurn", "NotYes", "OtherSheet",
    "NothingToUndo",
]


class FunctionsTest(unittest.TestCase):
    def test_each_function_stands_in_its_file_with_its_arguments(self):
        for module_name, functions in FUNCTIONS.items():
            module = importlib.import_module(module_name)
            for name, parameters in functions.items():
                function = getattr(module, name)
                self.assertTrue(inspect.isfunction(function), name)
                self.assertEqual(function.__module__, module_name, name)
                self.assertEqual(function.__name__, name)
                told = inspect.signature(function).parameters
                self.assertEqual(list(told), parameters, name)
                for parameter in told.values():
                    self.assertEqual(parameter.kind, inspect.Parameter.POSITIONAL_OR_KEYWORD, name)
                    self.assertIs(parameter.default, inspect.Parameter.empty, name)


    def test_common(self):
        function = importlib.import_module("leastreasons.deciders").common
        self.assertTrue(inspect.isfunction(function))
        self.assertEqual(function.__module__, "leastreasons.deciders")
        self.assertEqual(str(inspect.signature(function)), "(first, *more)")


class ClassesTest(unittest.TestCase):
    def test_each_class_stands_in_its_file_with_its_own_methods(self):
        for (module_name, name), (bases, methods, properties, operators) in CLASSES.items():
            kind = getattr(importlib.import_module(module_name), name)
            self.assertTrue(inspect.isclass(kind), name)
            self.assertEqual((kind.__module__, kind.__name__), (module_name, name))
            self.assertEqual([base.__name__ for base in kind.__bases__], bases)
            own = vars(kind)
            for method, signature in methods.items():
                self.assertTrue(inspect.isfunction(own.get(method)), (name, method))
                self.assertEqual(str(inspect.signature(own[method])), signature, (name, method))
            for one in properties:
                self.assertIsInstance(own.get(one), property, (name, one))
            for operator in operators:
                self.assertTrue(inspect.isfunction(own.get(operator)), (name, operator))

    def test_the_class_methods_of_deciders(self):
        kind = importlib.import_module("leastreasons.deciders").Decider
        for name, signature in (("of_card", "(sizes, *weights, bound=0)"), ("of_rules", "(sizes, *rules, last=False)")):
            self.assertIsInstance(vars(kind)[name], classmethod)
            self.assertEqual(str(inspect.signature(getattr(kind, name))), signature)


class ErrorsTest(unittest.TestCase):
    def test_the_error_above_all_others(self):
        self.assertEqual(errors.ReasonError.__bases__, (ValueError,))
        self.assertEqual(errors.ReasonError.__module__, "leastreasons.errors")
        with self.assertRaises(ValueError):
            raise errors.ReasonError("odd")

    def test_each_other_error_is_directly_under_it(self):
        for name in [*ERRORS, "InvalidText"]:
            kind = getattr(errors, name)
            self.assertEqual(kind.__bases__, (errors.ReasonError,), name)
            self.assertEqual(kind.__module__, "leastreasons.errors", name)
            self.assertEqual(kind.__name__, name)

    def test_no_error_is_under_another_one(self):
        kinds = [getattr(errors, name) for name in [*ERRORS, "InvalidText"]]
        for kind in kinds:
            for other in kinds:
                self.assertEqual(issubclass(kind, other), kind is other)

    def test_each_is_made_with_one_string(self):
        for name in ["ReasonError", *ERRORS]:
            kind = getattr(errors, name)
            made = kind("what is wrong")
            self.assertIs(made.__class__, kind)
            with self.assertRaises(kind):
                raise made

    def test_a_text_error_keeps_its_place(self):
        for place in (0, 1, 7, 4000):
            self.assertEqual(errors.InvalidText(place).place, place)
            self.assertEqual(errors.InvalidText(place=place).place, place)
        with self.assertRaises(errors.InvalidText) as caught:
            raise errors.InvalidText(12)
        self.assertEqual(caught.exception.place, 12)
        self.assertNotEqual(errors.InvalidText(1).place, errors.InvalidText(2).place)


if __name__ == "__main__":
    unittest.main()
