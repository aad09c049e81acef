"""Promises 6 and 19: comparing and counting, compared with going through all cases."""

import functools
import itertools
import random
import unittest

from leastreasons.compare import (alike, count_parted, count_yes, mattering, nth_yes, parting_case, rises, swings,
                                  within, yes_index)
from leastreasons.errors import (InvalidCase, InvalidField, InvalidForm, InvalidIndex, InvalidSizes, NotSmall, NotYes)
from leastreasons.forms import ordered_tree
from leastreasons.reasons import can_turn
from tests.brute import some_card, some_forms, yes_cases
from tests.reference import ANY_VALUES, NO, YES, all_cases, called, refused, told
from tests.samples import OTHER_FORMS, PLAIN_TREES, SIZES, TABLE, wrong_forms

EXAMPLE_SIZES = [2, 2, 3]
EXAMPLE = ("card", ((0, 2), (0, 1), (0, 1, 2)), 3)
TEN = [2] * 10
ONES = tuple(("is", field, (1,)) for field in range(10))
SHEETS = ([], [2], [3], [4], [5], [6], [2, 2], [3, 2], [2, 3, 4], [5, 2, 3], [2, 6, 2], [2, 2, 2, 2])


@functools.cache
def forms_by_sheet():
    """Pairs of sizes and forms, of each kind, always the same ones."""
    source = random.Random(22)
    found = [(SIZES, [*PLAIN_TREES, *OTHER_FORMS])]
    for sizes in SHEETS:
        forms = some_forms(source, sizes, 8) + [some_card(source, sizes) for _ in range(3)]
        found.append((sizes, [YES, NO, *forms]))
    return found


def samples():
    """Pairs of sizes and a form."""
    return [(sizes, form) for sizes, forms in forms_by_sheet() for form in forms]


def pairs():
    """Tuples of sizes and two forms."""
    return [(sizes, one, other) for sizes, forms in forms_by_sheet() for one in forms[:14] for other in forms[:14]]


def parted(sizes, one, other):
    """The cases for which two forms have unlike answers, ascending."""
    return [case for case in all_cases(sizes) if told(sizes, one, case) != told(sizes, other, case)]


class TwoFormsTest(unittest.TestCase):
    def test_compared_with_going_through_all_cases(self):
        for sizes, one, other in pairs():
            expected = parted(sizes, one, other)
            self.assertIs(called(self, alike, sizes, one, other), expected == [])
            self.assertEqual(called(self, parting_case, sizes, one, other), expected[0] if expected else None)
            self.assertEqual(called(self, count_parted, sizes, one, other), len(expected))
            of_one, of_other = yes_cases(sizes, one), yes_cases(sizes, other)
            self.assertIs(called(self, within, sizes, one, other), all(case in of_other for case in of_one))

    def test_alike_exactly_if_the_ordered_trees_are_equal(self):
        for sizes, one, other in pairs():
            self.assertIs(alike(sizes, one, other), ordered_tree(sizes, one) == ordered_tree(sizes, other))

    def test_a_form_beside_itself(self):
        for sizes, form in samples():
            self.assertIs(alike(sizes, form, form), True)
            self.assertIs(within(sizes, form, form), True)
            self.assertIs(parting_case(sizes, form, form), None)
            self.assertEqual(count_parted(sizes, form, form), 0)
            self.assertEqual(parting_case(sizes, form, ("not", form)), [0] * len(sizes))
            self.assertEqual(count_parted(sizes, form, ("not", form)), len(all_cases(sizes)))

    def test_some_forms(self):
        one, other = ("is", 0, (1,)), ("or", (("is", 0, (1,)), ("is", 2, (2,))))
        self.assertIs(called(self, within, EXAMPLE_SIZES, one, other), True)
        self.assertIs(called(self, within, EXAMPLE_SIZES, other, one), False)
        self.assertIs(called(self, alike, EXAMPLE_SIZES, one, other), False)
        self.assertEqual(called(self, parting_case, EXAMPLE_SIZES, one, other), [0, 0, 2])
        self.assertEqual(called(self, count_parted, EXAMPLE_SIZES, one, other), 2)
        self.assertEqual(called(self, parting_case, [], YES, NO), [])
        self.assertIs(called(self, parting_case, [], YES, ("and", ())), None)
        self.assertEqual(called(self, count_parted, TEN, ("odd", ONES), ("not", ("odd", ONES))), 1024)
        self.assertEqual(called(self, parting_case, TEN, ("and", ONES), NO), [1] * 10)

    def test_wrong_arguments(self):
        for function in (alike, within, parting_case, count_parted):
            for wrong in wrong_forms()[::9]:
                refused(self, InvalidForm, function, SIZES, wrong, YES)
                refused(self, InvalidForm, function, SIZES, YES, wrong)
                refused(self, InvalidForm, function, SIZES, wrong, wrong)
            refused(self, InvalidForm, function, [2] * 11, YES, ("table", (True,) * 2048))
            refused(self, InvalidForm, function, [2] * 11, ["say", True], YES)
            refused(self, NotSmall, function, [2] * 11, YES, YES)
            refused(self, InvalidSizes, function, [2, 0], None, None)


class YesTest(unittest.TestCase):
    def test_back_and_forth(self):
        for sizes, form in samples():
            cases = yes_cases(sizes, form)
            self.assertEqual(called(self, count_yes, sizes, form), len(cases))
            for index, case in enumerate(cases):
                self.assertEqual(called(self, nth_yes, sizes, form, index), case)
                self.assertEqual(called(self, yes_index, sizes, form, case), index)
            refused(self, InvalidIndex, nth_yes, sizes, form, len(cases))
            for case in all_cases(sizes):
                if case not in cases:
                    refused(self, NotYes, yes_index, sizes, form, case)

    def test_the_example_of_the_document(self):
        expected = [[0, 1, 2], [1, 0, 1], [1, 0, 2], [1, 1, 0], [1, 1, 1], [1, 1, 2]]
        self.assertEqual(called(self, count_yes, EXAMPLE_SIZES, EXAMPLE), 6)
        self.assertEqual([nth_yes(EXAMPLE_SIZES, EXAMPLE, index) for index in range(6)], expected)

    def test_integers_that_are_no_index(self):
        for index in (-1, 6, 7, 10 ** 31 - 1, 1 - 10 ** 31):
            refused(self, InvalidIndex, nth_yes, EXAMPLE_SIZES, EXAMPLE, index)
        for index in (True, False, None, "0", [0], (0,)):
            refused(self, InvalidIndex, nth_yes, EXAMPLE_SIZES, EXAMPLE, index)
        for index in (0, 1, -1):
            refused(self, InvalidIndex, nth_yes, SIZES, NO, index)
            refused(self, NotSmall, nth_yes, [2] * 11, NO, index)
            refused(self, InvalidForm, nth_yes, [2] * 11, ("no",), index)

    def test_not_yes_behind_the_other_errors(self):
        refused(self, NotYes, yes_index, SIZES, NO, [0, 0, 0])
        refused(self, NotSmall, yes_index, [2] * 11, NO, [0] * 11)
        refused(self, InvalidCase, yes_index, SIZES, NO, [0, 0])
        refused(self, InvalidCase, yes_index, [2] * 11, NO, [0] * 10)
        refused(self, InvalidForm, yes_index, SIZES, ("say", 0), [0, 0])
        refused(self, InvalidCase, yes_index, SIZES, YES, [0, None, 0])

    def test_a_changed_case_changes_no_later_one(self):
        first = nth_yes(EXAMPLE_SIZES, EXAMPLE, 2)
        first[0] = 5
        first.append(1)
        self.assertEqual(nth_yes(EXAMPLE_SIZES, EXAMPLE, 2), [1, 0, 2])
        first = parting_case(EXAMPLE_SIZES, EXAMPLE, NO)
        first.clear()
        self.assertEqual(parting_case(EXAMPLE_SIZES, EXAMPLE, NO), [0, 1, 2])
        for function in (mattering, swings):
            first = function(EXAMPLE_SIZES, EXAMPLE)
            expected = list(first)
            first[0] = 7
            self.assertEqual(function(EXAMPLE_SIZES, EXAMPLE), expected)


class FieldsTest(unittest.TestCase):
    def test_compared_with_going_through_all_cases(self):
        for sizes, form in samples():
            counts = [sum(can_turn(sizes, form, case, [field]) for case in all_cases(sizes))
                      for field in range(len(sizes))]
            self.assertEqual(called(self, swings, sizes, form), counts)
            self.assertEqual(called(self, mattering, sizes, form), [field for field, many in enumerate(counts) if many])

    def test_which_fields_rise(self):
        for sizes, form in samples():
            for field in range(len(sizes)):
                falls = False
                for case in all_cases(sizes):
                    for value in range(case[field] + 1, sizes[field]):
                        greater = [*case[:field], value, *case[field + 1:]]
                        falls = falls or (told(sizes, form, case) and not told(sizes, form, greater))
                self.assertIs(called(self, rises, sizes, form, field), not falls)

    def test_sizes_from_2_to_6(self):
        for size in range(2, 7):
            for count in range(size + 1):
                for values in itertools.combinations(range(size), count):
                    form = ("is", 0, values)
                    mixed = 0 < count < size
                    self.assertEqual(called(self, swings, [size], form), [size if mixed else 0])
                    self.assertEqual(called(self, swings, [2, size], ("is", 1, values)), [0, 2 * size if mixed else 0])
                    self.assertEqual(called(self, mattering, [size], form), [0] if mixed else [])
                    self.assertIs(called(self, rises, [size], form, 0), values == tuple(range(size - count, size)))

    def test_fields_that_do_not_matter(self):
        form = ("and", (("is", 0, (1,)), ("is", 1, (0, 1, 2))))
        self.assertEqual(called(self, mattering, SIZES, form), [0])
        self.assertEqual(called(self, swings, SIZES, form), [12, 0, 0])
        for field in range(3):
            self.assertIs(called(self, rises, SIZES, form, field), True)
        self.assertIs(called(self, rises, SIZES, ("not", form), 0), False)
        self.assertIs(called(self, rises, SIZES, ("not", form), 1), True)
        for form in (YES, NO):
            self.assertEqual(called(self, mattering, SIZES, form), [])
            self.assertEqual(called(self, swings, SIZES, form), [0, 0, 0])
            self.assertEqual(called(self, swings, [], form), [])

    def test_ten_fields(self):
        self.assertEqual(called(self, swings, TEN, ("odd", ONES)), [1024] * 10)
        self.assertEqual(called(self, swings, TEN, ("and", ONES)), [2] * 10)
        self.assertEqual(called(self, swings, TEN, ("and", ONES[2:5])), [0, 0, 256, 256, 256] + [0] * 5)
        self.assertEqual(called(self, mattering, TEN, ("or", ONES[7:])), [7, 8, 9])
        self.assertIs(called(self, rises, TEN, ("and", ONES), 9), True)
        self.assertIs(called(self, rises, TEN, ("odd", ONES), 9), False)
        self.assertIs(called(self, rises, TEN, ("or", (*ONES[:9], ("is", 9, (0,)))), 9), False)

    def test_a_fall_between_far_values(self):
        self.assertIs(called(self, rises, [6], ("is", 0, (0, 5)), 0), False)
        self.assertIs(called(self, rises, [6], ("is", 0, (4,)), 0), False)
        self.assertIs(called(self, rises, [6], ("is", 0, (4, 5)), 0), True)
        self.assertIs(called(self, rises, SIZES, TABLE, 0), True)
        self.assertIs(called(self, rises, SIZES, TABLE, 1), False)

    def test_wrong_arguments(self):
        for field in (-1, 3, 10 ** 31 - 1, True, False, None, "0", [0], (0,), []):
            refused(self, InvalidField, rises, SIZES, YES, field)
            refused(self, InvalidForm, rises, SIZES, ("say",), field)
        refused(self, InvalidField, rises, [], YES, 0)
        refused(self, InvalidField, rises, [2] * 11, YES, 11)
        refused(self, NotSmall, rises, [2] * 11, YES, 10)
        for function in (count_yes, mattering, swings):
            for wrong in ANY_VALUES:
                if wrong != YES:
                    refused(self, InvalidForm, function, SIZES, wrong)
            refused(self, NotSmall, function, [2] * 11, YES)
            refused(self, InvalidForm, function, [2] * 11, ("is", 11, ()))


if __name__ == "__main__":
    unittest.main()
