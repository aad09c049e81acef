"""Promise 2: the errors of each argument and their order, and that arguments and results stay apart."""

import copy
import importlib
import itertools
import unittest

from leastreasons import compare, errors, forms, reasons, sheets
from tests.calls import FORM, FUNCTIONS, RIGHT, SIZES, WRONG
from tests.reference import ANY_VALUES, NO, YES, called, nested, refused
from tests.test_interface import FUNCTIONS as INTERFACE


def lists_in(value):
    """All lists in a value, itself included."""
    found = [value] if isinstance(value, list) else []
    if isinstance(value, (list, tuple)):
        found += [inner for part in value for inner in lists_in(part)]
    return found


def spoil(value):
    """Change all lists in a value."""
    for part in lists_in(value):
        part.append(9)


def first_error(names, wrong, not_small):
    """The error that comes first, if each argument is wrong in some way or right, and the sheet perhaps not small."""
    ahead = [pair[0] for name, pair in zip(names, wrong) if pair is not None and name != "index"]
    behind = [pair[0] for name, pair in zip(names, wrong) if pair is not None and name == "index"]
    return [*ahead, *([errors.NotSmall] if not_small else []), *behind][0]


class CallsTest(unittest.TestCase):
    def test_each_function_of_the_interface_is_called(self):
        listed = [(module, name) for module, functions in INTERFACE.items() for name in functions if name != "is_sizes"]
        self.assertEqual({(call[0].__module__, call[0].__name__) for call in FUNCTIONS}, set(listed))
        for function, names, small, big, _ in FUNCTIONS:
            parameters = INTERFACE[function.__module__][function.__name__]
            self.assertEqual(names, [name for name in parameters if name in WRONG][:len(names)])
            self.assertEqual(set(parameters) - set(names) - {"value", "text"}, set(), function)
            self.assertEqual((len(small), len(big)), (len(parameters),) * 2)
            self.assertIs(getattr(importlib.import_module(function.__module__), function.__name__), function)


class ErrorsOfArgumentsTest(unittest.TestCase):
    def test_each_argument_alone(self):
        for function, names, passed, _, _ in FUNCTIONS:
            for at, name in enumerate(names):
                for error, values in WRONG[name]:
                    for value in values:
                        refused(self, error, function, *passed[:at], value, *passed[at + 1:])

    def test_several_arguments_in_the_order_of_the_signature(self):
        for function, names, small, big, needs_small in FUNCTIONS:
            for passed in (small, big):
                for wrong in itertools.product(*[[None, *WRONG[name]] for name in names]):
                    if any(wrong):
                        spoilt = list(passed)
                        for at, pair in enumerate(wrong):
                            if pair is not None:
                                spoilt[at] = pair[1][0]
                        refused(self, first_error(names, wrong, needs_small and passed == big), function, *spoilt)

    def test_a_call_that_raises_an_error_changes_nothing(self):
        for function, names, small, big, needs_small in FUNCTIONS:
            calls = [big] if needs_small else []
            for at, name in enumerate(names):
                for _, values in WRONG[name]:
                    calls += [[*small[:at], value, *small[at + 1:]] for value in values]
            for passed in calls:
                before = repr(passed)
                with self.assertRaises(errors.ReasonError):
                    function(*passed)
                self.assertEqual(repr(passed), before)

    def test_every_wrong_value_is_told_before_a_sheet_that_is_not_small(self):
        for function, names, _, big, needs_small in FUNCTIONS:
            if needs_small:
                for at, name in enumerate(names):
                    for error, values in WRONG[name]:
                        for value in values:
                            # An index is looked at behind that.
                            first = errors.NotSmall if name == "index" else error
                            refused(self, first, function, *big[:at], value, *big[at + 1:])

    def test_not_small_behind_the_arguments(self):
        for function, _, _, big, needs_small in FUNCTIONS:
            if needs_small:
                refused(self, errors.NotSmall, function, *big)
            else:
                called(self, function, *big)

    def test_not_small_ahead_of_the_errors_of_the_points(self):
        sizes, case = [2] * 11, [0] * 11
        refused(self, errors.NotSmall, reasons.reason_cases, sizes, YES, case, [0, 1])
        refused(self, errors.NoReason, reasons.reason_cases, sizes[1:], YES, case[1:], [0, 1])
        refused(self, errors.NotSmall, reasons.cheapest_turn, sizes, YES, case, case)
        refused(self, errors.NoTurn, reasons.cheapest_turn, sizes[1:], YES, case[1:], case[1:])
        refused(self, errors.NotSmall, compare.yes_index, sizes, NO, case)
        refused(self, errors.NotYes, compare.yes_index, sizes[1:], NO, case[1:])
        refused(self, errors.NotSmall, compare.nth_yes, sizes, NO, 0)
        refused(self, errors.NotSmall, compare.nth_yes, sizes, NO, None)
        refused(self, errors.InvalidIndex, compare.nth_yes, sizes[1:], NO, 0)

    def test_values_of_every_kind(self):
        for function, names, passed, _, _ in FUNCTIONS:
            for at, name in enumerate(names):
                right = [repr(value) for value in RIGHT.get(name, [])]
                for value in ANY_VALUES:
                    # Of these values only a form "say" is a form, but neither a card nor a list of rules.
                    error = WRONG[name][1 if name in ("card", "rules") and value == YES else 0][0]
                    if repr(value) not in right:
                        refused(self, error, function, *passed[:at], value, *passed[at + 1:])

    def test_values_nested_deep_in_a_form(self):
        deep = nested(tuple, 38)
        for wrong in (("not", deep), ("and", deep), ("tree", 0, (YES, deep)), ("rules", deep, True), ("say", deep)):
            refused(self, errors.InvalidForm, forms.answer, SIZES, wrong, [0, 0])


class ResultsTest(unittest.TestCase):
    def test_equal_calls_have_equal_results(self):
        for function, _, small, big, needs_small in FUNCTIONS:
            for passed in [small] if needs_small else [small, big]:
                first = called(self, function, *passed)
                self.assertEqual(repr(called(self, function, *passed)), repr(first))

    def test_a_changed_result_changes_no_later_one(self):
        for function, _, small, big, needs_small in FUNCTIONS:
            for passed in [small] if needs_small else [small, big]:
                first = function(*passed)
                expected, before = repr(first), repr(passed)
                spoil(first)
                self.assertEqual(repr(function(*passed)), expected)
                self.assertEqual(repr(passed), before)

    def test_returned_lists_are_new(self):
        for function, _, small, big, needs_small in FUNCTIONS:
            for passed in [small] if needs_small else [small, big]:
                found, second = function(*passed), function(*passed)
                seen = [id(part) for part in [*lists_in(found), *lists_in(second)]]
                self.assertEqual(len(set(seen)), len(seen))
                self.assertFalse(set(seen) & {id(part) for part in lists_in(passed)})

    def test_a_changed_argument_changes_no_earlier_result(self):
        for function, _, small, _, _ in FUNCTIONS:
            passed = copy.deepcopy(small)
            found = function(*passed)
            expected = repr(found)
            spoil(passed)
            self.assertEqual(repr(found), expected)

    def test_some_results_behind_changed_arguments(self):
        sizes, half = [2, 3], [1, 2]
        filled = sheets.completing(sizes, half)
        tree = forms.fixed(sizes, FORM, half)
        half[0] = 0
        sizes[0] = 6
        self.assertEqual(filled, [[1, 2]])
        self.assertEqual(tree, YES)

    def test_returned_values_may_be_passed_back(self):
        sizes = [2] * 10
        form = ("odd", tuple(("is", field, (1,)) for field in range(10)))
        tree = forms.ordered_tree(sizes, form)
        table = ("table", forms.answers(sizes, tree))
        self.assertEqual(forms.answers(sizes, ("odd", (form, tree, table))), table[1])
        self.assertEqual(forms.ordered_tree(sizes, table), tree)
        self.assertEqual(forms.measure(sizes, ("and", (tree, tree[2][1]))), (1 + 2047 + 1023, 12))
        for case in sheets.completing(sizes, sheets.nth_case(sizes, 700)):
            self.assertEqual(forms.fixed(sizes, tree, case), ("say", forms.answer(sizes, form, case)))
            self.assertEqual(sheets.case_index(sizes, case), 700)
            self.assertEqual(reasons.reasons(sizes, tree, case), [list(range(10))])
            self.assertEqual(reasons.turns(sizes, table, case), [[field] for field in range(10)])

    def test_returned_lists_are_different_objects(self):
        sizes, half = [2, 3], [1, 0]
        found = sheets.completing(sizes, half)
        self.assertEqual(found, [half])
        self.assertIsNot(found[0], half)
        found = sheets.completing(sizes, [None, None])
        self.assertEqual(len({id(row) for row in found}), 6)
        self.assertIsNot(sheets.completing([], [])[0], sheets.completing([], [])[0])
        self.assertIsNot(sheets.nth_case(sizes, 0), sheets.nth_case(sizes, 0))


if __name__ == "__main__":
    unittest.main()
