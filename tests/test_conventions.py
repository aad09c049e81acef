"""Promise 2: the errors of each argument and their order, and that arguments and results stay apart."""

import itertools
import unittest

from leastreasons import errors, forms, sheets
from tests.reference import ANY_VALUES, NO, YES, called, nested, refused

SIZES = [2, 3]
FORM = ("tree", 0, (("is", 1, (0, 2)), YES))

# Each argument with its error and values that it must not have on SIZES and on a sheet of twelve fields alike.
WRONG = {
    "sizes": (errors.InvalidSizes, [None, (2, 3), [2, 7], [2, True], "2", [2] * 25, [[2, 3]]]),
    "form": (errors.InvalidForm, [None, YES[:1], ["say", True], ("say", 1), ("is", 99, ()), ("and", (YES, 0)), "say"]),
    "case": (errors.InvalidCase, [None, (0, 0), [0], [0, 3, 0], [0, None], [True, 0], [-1, 0], [[0], 0], "00", 0]),
    "second_case": (errors.InvalidCase, [None, (1, 1), [], [0, "0"], [0, None], [0, False], [0, -1], [2, 0], 1]),
    "half": (errors.InvalidHalf, [None, (None, 0), [None], [None] * 3, [None, False], [None, -1], ["?", 0], [6, 0], 0]),
    "index": (errors.InvalidIndex, [None, -1, 10 ** 31 - 1, True, False, "0", [0], (0,)]),
}

# Each function with right arguments on SIZES and on a sheet that is not small, and whether it needs a small one.
BIG_SIZES = [2] * 12
BIG_FORM = ("or", (("is", 11, (1,)), ("tree", 0, (NO, YES))))
ANY_SHEET = False
SMALL_SHEET = True
FUNCTIONS = [
    (sheets.count_cases, ["sizes"], [SIZES], [BIG_SIZES], ANY_SHEET),
    (sheets.is_small, ["sizes"], [SIZES], [BIG_SIZES], ANY_SHEET),
    (sheets.nth_case, ["sizes", "index"], [SIZES, 5], [BIG_SIZES, 4095], ANY_SHEET),
    (sheets.case_index, ["sizes", "case"], [SIZES, [1, 2]], [BIG_SIZES, [1] * 12], ANY_SHEET),
    (sheets.completing, ["sizes", "half"], [SIZES, [None, 2]], [BIG_SIZES, [None] * 12], SMALL_SHEET),
    (sheets.differing, ["sizes", "case", "second_case"], [SIZES, [1, 2], [0, 2]],
     [BIG_SIZES, [0] * 12, [1] * 12], ANY_SHEET),
    (forms.is_form, ["sizes"], [SIZES, FORM], [BIG_SIZES, BIG_FORM], ANY_SHEET),
    (forms.is_plain_tree, ["sizes"], [SIZES, FORM], [BIG_SIZES, BIG_FORM], ANY_SHEET),
    (forms.answer, ["sizes", "form", "case"], [SIZES, FORM, [0, 2]], [BIG_SIZES, BIG_FORM, [0] * 12], ANY_SHEET),
    (forms.answers, ["sizes", "form"], [SIZES, FORM], [BIG_SIZES, BIG_FORM], SMALL_SHEET),
    (forms.measure, ["sizes", "form"], [SIZES, FORM], [BIG_SIZES, BIG_FORM], ANY_SHEET),
    (forms.named_fields, ["sizes", "form"], [SIZES, FORM], [BIG_SIZES, BIG_FORM], ANY_SHEET),
    (forms.ordered_tree, ["sizes", "form"], [SIZES, FORM], [BIG_SIZES, BIG_FORM], SMALL_SHEET),
    (forms.fixed, ["sizes", "form", "half"], [SIZES, FORM, [None, 2]], [BIG_SIZES, BIG_FORM, [0] * 12], SMALL_SHEET),
]


def right_sizes(value):
    """Whether one of ANY_VALUES is the sizes of a sheet, told without the program."""
    return value == [] and isinstance(value, list)


class ErrorsOfArgumentsTest(unittest.TestCase):
    def test_each_argument_alone(self):
        for function, names, passed, _, _ in FUNCTIONS:
            for at, name in enumerate(names):
                error, values = WRONG[name]
                for value in values:
                    refused(self, error, function, *passed[:at], value, *passed[at + 1:])

    def test_several_arguments_in_the_order_of_the_signature(self):
        for function, names, small, big, _ in FUNCTIONS:
            for passed in (small, big):
                for wrong in itertools.product([False, True], repeat=len(names)):
                    if any(wrong):
                        self.see_first_error(function, names, passed, wrong)

    def see_first_error(self, function, names, passed, wrong):
        spoilt = list(passed)
        for at, name in enumerate(names):
            if wrong[at]:
                spoilt[at] = WRONG[name][1][0]
        first = names[wrong.index(True)]
        refused(self, WRONG[first][0], function, *spoilt)

    def test_a_call_that_raises_an_error_changes_nothing(self):
        for function, names, small, big, needs_small in FUNCTIONS:
            calls = [big] if needs_small else []
            for at, name in enumerate(names):
                calls += [[*small[:at], value, *small[at + 1:]] for value in WRONG[name][1]]
            for passed in calls:
                before = repr(passed)
                with self.assertRaises(errors.ReasonError):
                    function(*passed)
                self.assertEqual(repr(passed), before)

    def test_every_wrong_value_is_told_before_a_sheet_that_is_not_small(self):
        for function, names, _, big, needs_small in FUNCTIONS:
            if needs_small:
                for at, name in enumerate(names):
                    for value in WRONG[name][1]:
                        refused(self, WRONG[name][0], function, *big[:at], value, *big[at + 1:])

    def test_not_small_behind_the_arguments(self):
        for function, _, _, big, needs_small in FUNCTIONS:
            if needs_small:
                refused(self, errors.NotSmall, function, *big)
            else:
                called(self, function, *big)

    def test_values_of_every_kind(self):
        for function, names, passed, _, _ in FUNCTIONS:
            for value in ANY_VALUES:
                if "sizes" in names and not right_sizes(value):
                    refused(self, errors.InvalidSizes, function, value, *passed[1:])
                for at, name in enumerate(names[1:], start=1):
                    if not (name == "form" and value == YES) and not (name == "index" and self.is_index(value)):
                        refused(self, WRONG[name][0], function, *passed[:at], value, *passed[at + 1:])

    def is_index(self, value):
        return isinstance(value, int) and not isinstance(value, bool) and 0 <= value < 6

    def test_values_nested_deep_in_a_form(self):
        deep = nested(tuple, 38)
        for wrong in (("not", deep), ("and", deep), ("tree", 0, (YES, deep)), ("rules", deep, True), ("say", deep)):
            refused(self, errors.InvalidForm, forms.answer, SIZES, wrong, [0, 0])


class ResultsTest(unittest.TestCase):
    def test_equal_calls_have_equal_results(self):
        for function, _, small, big, needs_small in FUNCTIONS:
            for passed in [small] if needs_small else [small, big]:
                first = called(self, function, *passed)
                self.assertEqual(called(self, function, *passed), first)

    def test_a_changed_result_changes_no_later_one(self):
        for function, _, passed, _, _ in FUNCTIONS:
            first = function(*passed)
            if isinstance(first, list):
                expected = repr(first)
                for row in first:
                    if isinstance(row, list):
                        row.append(9)
                first.append(9)
                self.assertEqual(repr(function(*passed)), expected)

    def test_a_changed_argument_changes_no_earlier_result(self):
        sizes, half = [2, 3], [1, 2]
        filled = sheets.completing(sizes, half)
        tree = forms.fixed(sizes, FORM, half)
        half[0] = 0
        sizes[0] = 6
        self.assertEqual(filled, [[1, 2]])
        self.assertEqual(tree, YES)

    def test_returned_values_may_be_passed_back(self):
        sizes = [2] * 10
        form = ("odd", tuple(("is", field, (1,)) for field in range(10)))
        tree = forms.ordered_tree(sizes, form)
        table = ("table", forms.answers(sizes, tree))
        self.assertEqual(forms.answers(sizes, ("odd", (form, tree, table))), table[1])
        self.assertEqual(forms.ordered_tree(sizes, table), tree)
        self.assertEqual(forms.measure(sizes, ("and", (tree, tree[2][1]))), (1 + 2047 + 1023, 12))
        for case in sheets.completing(sizes, sheets.nth_case(sizes, 700)):
            self.assertEqual(forms.fixed(sizes, tree, case), ("say", forms.answer(sizes, form, case)))
            self.assertEqual(sheets.case_index(sizes, case), 700)

    def test_returned_lists_are_different_objects(self):
        sizes, half = [2, 3], [1, 0]
        found = sheets.completing(sizes, half)
        self.assertEqual(found, [half])
        self.assertIsNot(found[0], half)
        found = sheets.completing(sizes, [None, None])
        self.assertEqual(len({id(row) for row in found}), 6)
        self.assertIsNot(sheets.completing([], [])[0], sheets.completing([], [])[0])
        self.assertIsNot(sheets.nth_case(sizes, 0), sheets.nth_case(sizes, 0))


if __name__ == "__main__":
    unittest.main()
