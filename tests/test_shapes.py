"""Promises 4 and 9: which values are forms, and which are plain trees."""

import unittest

from leastreasons.errors import InvalidForm
from leastreasons.forms import answer, answers, fixed, is_form, is_plain_tree, measure, named_fields, ordered_tree
from tests.reference import ANY_VALUES, NO, YES, called, nested, refused
from tests.samples import BEYOND_LIMITS, OTHER_FORMS, PLAIN_TREES, SIZES, wrapped, wrong_forms


class FormsTest(unittest.TestCase):
    def test_each_kind_of_form(self):
        for form in [*PLAIN_TREES, *OTHER_FORMS, *BEYOND_LIMITS]:
            self.assertIs(called(self, is_form, SIZES, form), True, form)
            for outer in wrapped(form):
                self.assertIs(called(self, is_form, SIZES, outer), True, outer)

    def test_each_part_wrong(self):
        for form in wrong_forms():
            self.assertIs(called(self, is_form, SIZES, form), False, form)
            self.assertIs(called(self, is_plain_tree, SIZES, form), False, form)
            for outer in wrapped(form):
                self.assertIs(is_form(SIZES, outer), False, outer)
                self.assertIs(is_plain_tree(SIZES, outer), False, outer)

    def test_wrong_forms_are_refused(self):
        for form in wrong_forms():
            for value in (form, wrapped(form)[4], wrapped(form)[7]):
                refused(self, InvalidForm, answer, SIZES, value, [0, 0, 0])
                refused(self, InvalidForm, answers, SIZES, value)
                refused(self, InvalidForm, measure, SIZES, value)
                refused(self, InvalidForm, named_fields, SIZES, value)
                refused(self, InvalidForm, ordered_tree, SIZES, value)
                refused(self, InvalidForm, fixed, SIZES, value, [None, None, None])

    def test_values_of_every_kind(self):
        for value in ANY_VALUES:
            expected = isinstance(value, tuple) and value == ("say", True)
            for sizes in (SIZES, []):
                self.assertIs(is_form(sizes, value), expected, repr(value)[:300])
                self.assertIs(is_plain_tree(sizes, value), expected, repr(value)[:300])

    def test_values_nested_deep(self):
        form = YES
        for _ in range(38):
            form = ("not", form)
        self.assertIs(called(self, is_form, SIZES, form), True)
        self.assertIs(called(self, answer, SIZES, form, [0, 0, 0]), True)
        self.assertIs(is_form(SIZES, ("not", nested(tuple, 39))), False)
        self.assertIs(is_form(SIZES, ("and", (YES,) * 99_998 + (None,))), False)

    def test_the_same_value_on_other_sheets(self):
        self.assertIs(is_form([2], ("is", 1, ())), False)
        self.assertIs(is_form([2, 2], ("is", 1, ())), True)
        self.assertIs(is_form([2], ("is", 0, (2,))), False)
        self.assertIs(is_form([3], ("is", 0, (2,))), True)
        self.assertIs(is_form([2], ("tree", 0, (YES, NO))), True)
        self.assertIs(is_form([3], ("tree", 0, (YES, NO))), False)
        self.assertIs(is_form([2], ("card", ((1, 0),), 0)), True)
        self.assertIs(is_form([2, 2], ("card", ((1, 0),), 0)), False)
        self.assertIs(is_form([2], ("table", (True, False))), True)
        self.assertIs(is_form([3], ("table", (True, False))), False)

    def test_the_sheet_without_fields(self):
        for form in (YES, NO, ("rules", (), True), ("rules", (((), False),), True), ("card", (), 0), ("table", (True,)),
                     ("not", YES), ("and", ()), ("odd", (YES, NO))):
            self.assertIs(called(self, is_form, [], form), True)
        for form in (("is", 0, ()), ("tree", 0, ()), ("tree", 0, (YES, NO)), ("card", ((),), 0), ("table", ()),
                     ("rules", ((((0, ()),), True),), True)):
            self.assertIs(called(self, is_form, [], form), False)

    def test_tables_on_small_sheets_only(self):
        self.assertIs(called(self, is_form, [2] * 10, ("table", (True,) * 1024)), True)
        self.assertIs(called(self, is_form, [4] * 5, ("table", (False,) * 1024)), True)
        for sizes, count in (([6, 6, 6, 5], 1080), ([2] * 11, 2048), ([2] * 12, 4096)):
            table = ("table", (True,) * count)
            self.assertIs(called(self, is_form, sizes, table), False)
            self.assertIs(is_form(sizes, ("not", table)), False)
            self.assertIs(is_form(sizes, ("table", (True,) * 1024)), False)
            refused(self, InvalidForm, answer, sizes, table, [0] * len(sizes))
            refused(self, InvalidForm, answers, sizes, table)
            refused(self, InvalidForm, fixed, sizes, table, [0] * len(sizes))


class PlainTreesTest(unittest.TestCase):
    def test_plain_trees(self):
        for tree in PLAIN_TREES:
            self.assertIs(called(self, is_plain_tree, SIZES, tree), True, tree)
            self.assertIs(is_plain_tree(SIZES, ("tree", 1, (tree, YES, tree))), True)

    def test_other_forms(self):
        for form in [*OTHER_FORMS, *BEYOND_LIMITS]:
            self.assertIs(called(self, is_plain_tree, SIZES, form), False, form)
            for outer in wrapped(form):
                self.assertIs(is_plain_tree(SIZES, outer), False, outer)

    def test_plain_trees_inside_other_forms(self):
        for tree in PLAIN_TREES:
            expected = [outer[0] == "tree" for outer in wrapped(tree)]
            expected[8] = True
            self.assertEqual([is_plain_tree(SIZES, outer) for outer in wrapped(tree)], expected)

    def test_trees_that_test_any_field_again_and_in_any_order(self):
        tree = ("tree", 23, (("tree", 0, (YES, ("tree", 23, (NO, NO)))), ("tree", 23, (YES, NO))))
        self.assertIs(called(self, is_plain_tree, [2] * 24, tree), True)
        self.assertIs(is_plain_tree([2] * 23, tree), False)


class GreatFormsTest(unittest.TestCase):
    def test_sixty_forms_on_eight_levels(self):
        form = ("odd", tuple(("is", number % 24, (1,)) for number in range(29)))
        for field in range(6):
            form = ("or", (form, ("not", ("is", field, (0, 1, 2, 3))), ("and", (NO,))))
        self.assertIs(called(self, is_form, [4] * 24, form), True)
        self.assertEqual(called(self, measure, [4] * 24, form), (60, 8))
        self.assertEqual(called(self, named_fields, [4] * 24, form), list(range(24)))
        self.assertIs(called(self, answer, [4] * 24, form, [1] * 24), True)
        # Field 0 is tested twice, field 5 once.
        self.assertIs(called(self, answer, [4] * 24, form, [0] + [1] * 23), True)
        self.assertIs(called(self, answer, [4] * 24, form, [1] * 5 + [0] + [1] * 18), False)

    def test_twelve_rules_with_six_conditions(self):
        rules = []
        for number in range(12):
            conditions = tuple((field, (0, 1 + number % 5)) for field in range(number, number + 6))
            rules.append((conditions, number % 2 == 0))
        form = ("rules", tuple(rules), True)
        self.assertIs(called(self, is_form, [6] * 24, form), True)
        self.assertIs(called(self, is_form, [6] * 17, form), True)
        self.assertIs(called(self, is_form, [6] * 16, form), False)
        backwards = (rules[11][0][::-1], True)
        self.assertIs(called(self, is_form, [6] * 24, ("rules", (*rules, backwards), True)), False)
        self.assertIs(called(self, answer, [6] * 24, form, [0] * 24), True)
        self.assertIs(called(self, answer, [6] * 24, form, [5] + [0] * 23), False)
        self.assertIs(called(self, answer, [6] * 24, form, [4] * 24), False)
        self.assertIs(called(self, answer, [6] * 24, form, [5] * 24), True)
        self.assertIs(called(self, answer, [6] * 24, form, [0, 5] * 12), True)

    def test_forms_beyond_the_limits_of_use(self):
        sizes = [2, 3, 4, 5, 6, 2] * 4
        conditions = tuple((field, (0, 1)) for field in range(24))
        form = ("rules", ((conditions, False),) * 100, True)
        for _ in range(9):
            form = ("not", form)
        form = ("or", (NO,) * 99 + (form,))
        self.assertIs(called(self, is_form, sizes, form), True)
        self.assertEqual(called(self, measure, sizes, form), (110, 11))
        self.assertIs(called(self, answer, sizes, form, [0, 1] * 12), True)
        self.assertIs(called(self, answer, sizes, form, [1, 2] + [0] * 22), False)
        self.assertIs(is_form(sizes, ("rules", (((*conditions, (23, (0, 1))), False),), True)), False)

    def test_sheets_of_24_fields(self):
        sizes = [2, 3, 4, 5, 6, 2] * 4
        card = ("card", tuple(tuple(range(size)) for size in sizes), 60)
        self.assertIs(called(self, is_form, sizes, card), True)
        self.assertIs(is_form(sizes, ("card", card[1][:23], 60)), False)
        self.assertIs(is_form(sizes, ("is", 23, (0, 1))), True)
        self.assertIs(is_form(sizes, ("is", 24, (0, 1))), False)
        self.assertIs(is_form(sizes, ("is", 23, (2,))), False)
        self.assertIs(called(self, answer, sizes, card, [size - 1 for size in sizes]), True)
        self.assertIs(called(self, answer, sizes, card, [0] * 24), False)


if __name__ == "__main__":
    unittest.main()
