"""Promises 4, 6 and 9: what forms answer, their measure and fields, and their ordered trees."""

import itertools
import unittest

from leastreasons.errors import InvalidCase, InvalidForm, InvalidHalf, InvalidSizes, NotSmall
from leastreasons.forms import answer, answers, fixed, is_plain_tree, measure, named_fields, ordered_tree
from tests.reference import NO, YES, all_cases, all_halves, called, completes, reduced, refused, sampled_forms, told
from tests.samples import CARD, OTHER_FORMS, PLAIN_TREES, RULES, SIZES, TABLE

# Forms on the sizes [2, 3] with their answers for [0, 0], [0, 1], [0, 2], [1, 0], [1, 1], [1, 2].
ANSWERS = [
    (YES, "yyyyyy"),
    (NO, "nnnnnn"),
    (("is", 0, ()), "nnnnnn"),
    (("is", 0, (1,)), "nnnyyy"),
    (("is", 1, (0, 2)), "ynyyny"),
    (("is", 1, (0, 1, 2)), "yyyyyy"),
    (("tree", 0, (YES, NO)), "yyynnn"),
    (("tree", 1, (NO, YES, ("is", 0, (1,)))), "nynnyy"),
    (("tree", 0, (("tree", 0, (NO, YES)), ("tree", 1, (YES, NO, NO)))), "nnnynn"),
    (("rules", (), True), "yyyyyy"),
    (("rules", (), False), "nnnnnn"),
    (("rules", (((), False),), True), "nnnnnn"),
    (("rules", ((((0, ()),), True),), False), "nnnnnn"),
    (("rules", ((((0, (0,)), (1, (1, 2))), True),), False), "nyynnn"),
    (("rules", ((((1, (1,)),), False), (((0, (1,)),), True), (((1, (0, 1)),), False)), True), "nnyyny"),
    (("rules", ((((0, (0,)),), True), ((), False)), True), "yyynnn"),
    (("card", ((0, 2), (0, 1, 2)), 2), "nnyyyy"),
    (("card", ((0, 2), (0, 1, 2)), 3), "nnnnyy"),
    (("card", ((0, -2), (-1, 3, 1)), 1), "nyynyn"),
    (("card", ((0, 0), (0, 0, 0)), 0), "yyyyyy"),
    (("card", ((0, 0), (0, 0, 0)), 1), "nnnnnn"),
    (("card", ((-50, 50), (50, 0, -50)), -50), "yynyyy"),
    (("table", (True, False, False, True, True, False)), "ynnyyn"),
    (("not", ("is", 0, (1,))), "yyynnn"),
    (("not", ("not", ("is", 0, (1,)))), "nnnyyy"),
    (("and", ()), "yyyyyy"),
    (("or", ()), "nnnnnn"),
    (("odd", ()), "nnnnnn"),
    (("and", (("is", 0, (1,)), ("is", 1, (0, 2)))), "nnnyny"),
    (("or", (("is", 0, (1,)), ("is", 1, (0, 2)))), "ynyyyy"),
    (("odd", (("is", 0, (1,)), ("is", 1, (0, 2)))), "ynynyn"),
    (("and", (("is", 1, (0, 1)), ("is", 1, (1, 2)), ("is", 0, (0,)))), "nynnnn"),
    (("or", (("is", 1, (0,)), ("is", 1, (2,)), ("is", 0, (0,)))), "yyyyny"),
    (("odd", (("is", 1, (0,)), ("is", 0, (0,)), ("is", 1, (0, 1)))), "ynynyn"),
    (("odd", (YES, YES)), "nnnnnn"),
    (("odd", (YES, YES, YES)), "yyyyyy"),
    (("odd", (("is", 0, (1,)),)), "nnnyyy"),
    (("and", (("is", 0, (1,)),)), "nnnyyy"),
    (("or", (("is", 0, (1,)),)), "nnnyyy"),
]

EXAMPLE_SIZES = [2, 2, 3]
EXAMPLE = ("card", ((0, 2), (0, 1), (0, 1, 2)), 3)


class AnswersTest(unittest.TestCase):
    def test_each_kind_of_form(self):
        for form, letters in ANSWERS:
            expected = tuple(letter == "y" for letter in letters)
            found = called(self, answers, [2, 3], form)
            self.assertIsInstance(found, tuple)
            self.assertEqual(repr(found), repr(expected), form)
            for case, result in zip(all_cases([2, 3]), expected):
                self.assertIs(called(self, answer, [2, 3], form, case), result, (form, case))

    def test_the_example_of_the_document(self):
        yes = [case for case in all_cases(EXAMPLE_SIZES) if answer(EXAMPLE_SIZES, EXAMPLE, case)]
        self.assertEqual(yes, [[0, 1, 2], [1, 0, 1], [1, 0, 2], [1, 1, 0], [1, 1, 1], [1, 1, 2]])

    def test_compared_with_the_definitions(self):
        samples = [(SIZES, form) for form in [*PLAIN_TREES, *OTHER_FORMS]]
        for sizes, form in [*samples, *sampled_forms()]:
            expected = tuple(told(sizes, form, case) for case in all_cases(sizes))
            self.assertEqual(repr(called(self, answers, sizes, form)), repr(expected), form)
            for case, result in zip(all_cases(sizes), expected):
                self.assertIs(answer(sizes, form, case), result)

    def test_the_sheet_without_fields(self):
        for form, result in ((YES, True), (NO, False), (("rules", (), True), True), (("rules", (((), False),), True), False),
                             (("card", (), 0), True), (("card", (), 1), False), (("table", (False,)), False),
                             (("not", YES), False), (("and", ()), True), (("or", ()), False), (("odd", (YES,)), True)):
            self.assertIs(called(self, answer, [], form, []), result)
            self.assertEqual(called(self, answers, [], form), (result,))

    def test_the_greatest_small_sheet(self):
        table = ("table", tuple(number % 3 == 0 for number in range(1024)))
        self.assertEqual(called(self, answers, [2] * 10, table), table[1])
        self.assertEqual(called(self, answers, [4] * 5, ("not", table)), tuple(not result for result in table[1]))
        self.assertEqual(len(answers([2] * 10, NO)), 1024)

    def test_sheets_of_24_fields(self):
        sizes = [2, 3, 4, 5, 6, 2] * 4
        form = ("rules", ((((0, (1,)), (5, (0,)), (23, (1,))), True), (((4, (2, 5)), (22, (5,))), False)), True)
        self.assertIs(called(self, answer, sizes, form, [0] * 24), True)
        case = [size - 1 for size in sizes]
        self.assertIs(called(self, answer, sizes, form, case), False)
        case[5] = 0
        self.assertIs(called(self, answer, sizes, form, case), True)
        tree = ("tree", 23, (("is", 22, (5,)), ("tree", 0, (NO, YES))))
        self.assertIs(called(self, answer, sizes, tree, case), True)
        self.assertIs(called(self, answer, sizes, tree, [0] * 24), False)
        self.assertIs(called(self, answer, sizes, tree, [0] * 22 + [5, 0]), True)

    def test_wrong_cases(self):
        for case in (None, 0, "00", (0, 0), [], [0], [0, 0, 0], [2, 0], [0, 3], [-1, 0], [None, 0], [True, 0], [[0], 0]):
            refused(self, InvalidCase, answer, [2, 3], YES, case)
            refused(self, InvalidForm, answer, [2, 3], ("say", 1), case)
            refused(self, InvalidSizes, answer, (2, 3), ("say", 1), case)

    def test_sheets_that_are_not_small(self):
        for sizes in ([6, 6, 6, 5], [2] * 11, [6] * 24):
            refused(self, NotSmall, answers, sizes, YES)
            refused(self, InvalidForm, answers, sizes, ("is", 24, ()))
            self.assertIs(answer(sizes, YES, [0] * len(sizes)), True)


class MeasureTest(unittest.TestCase):
    def test_forms_without_forms_in_them(self):
        for form in (YES, ("is", 0, ()), RULES, CARD, TABLE, ("and", ()), ("or", ()), ("odd", ())):
            self.assertEqual(called(self, measure, SIZES, form), (1, 1))

    def test_forms_in_forms(self):
        self.assertEqual(called(self, measure, SIZES, ("not", YES)), (2, 2))
        self.assertEqual(called(self, measure, SIZES, ("not", ("not", ("not", RULES)))), (4, 4))
        self.assertEqual(called(self, measure, SIZES, ("tree", 1, (YES, NO, YES))), (4, 2))
        self.assertEqual(called(self, measure, SIZES, ("and", (YES, ("not", ("or", ())), NO))), (5, 3))
        self.assertEqual(called(self, measure, SIZES, ("odd", (("not", ("not", YES)), ("not", NO)))), (6, 4))
        self.assertEqual(called(self, measure, SIZES, ("or", (("not", NO), ("not", ("not", YES))))), (6, 4))
        deep = ("tree", 0, (YES, ("tree", 0, (NO, ("tree", 0, (YES, NO))))))
        self.assertEqual(called(self, measure, SIZES, deep), (7, 4))

    def test_a_form_that_stands_at_several_places(self):
        twice = ("and", (CARD, CARD))
        self.assertEqual(called(self, measure, SIZES, twice), (3, 2))
        self.assertEqual(called(self, measure, SIZES, ("or", (twice, twice, ("not", twice)))), (11, 4))
        form = YES
        for _ in range(7):
            form = ("odd", (form, form))
        self.assertEqual(called(self, measure, SIZES, form), (255, 8))
        self.assertEqual(called(self, measure, SIZES, ("tree", 0, (twice, twice))), (7, 3))

    def test_sheets_of_any_kind(self):
        self.assertEqual(called(self, measure, [], ("not", ("and", (YES, YES, NO)))), (5, 3))
        self.assertEqual(called(self, measure, [6] * 24, ("tree", 23, (YES,) * 6)), (7, 2))


class NamedFieldsTest(unittest.TestCase):
    def test_forms_without_cards_and_tables(self):
        for form, fields in (
                (YES, []),
                (("and", ()), []),
                (("rules", (), True), []),
                (("rules", (((), True),), True), []),
                (("is", 2, ()), [2]),
                (("is", 2, (0, 1)), [2]),
                (("tree", 1, (YES, YES, YES)), [1]),
                (("tree", 2, (("is", 0, (0,)), NO)), [0, 2]),
                (("not", ("is", 1, (2,))), [1]),
                (RULES, [0, 1, 2]),
                (("rules", ((((2, ()),), True), (((0, (0, 1)), (2, (1,))), False)), True), [0, 2]),
                (("odd", (("is", 2, (1,)), ("is", 0, (1,)), ("is", 2, (0,)), ("not", ("is", 0, ())))), [0, 2]),
                (("or", (("tree", 2, (YES, ("tree", 1, (NO, NO, ("not", YES))))), YES)), [1, 2])):
            self.assertEqual(called(self, named_fields, SIZES, form), fields, form)

    def test_all_fields_if_a_card_or_a_table_is_in_it(self):
        flat = ("card", ((0, 0), (0, 0, 0), (0, 0)), 0)
        for leaf in (CARD, TABLE, flat, ("table", (True,) * 12)):
            for form in (leaf, ("not", leaf), ("and", (YES, leaf)), ("tree", 1, (NO, leaf, NO)),
                         ("or", (("is", 1, (0,)), ("odd", (("not", leaf),))))):
                self.assertEqual(called(self, named_fields, SIZES, form), [0, 1, 2])
        self.assertEqual(called(self, named_fields, [], ("card", (), 0)), [])
        self.assertEqual(called(self, named_fields, [], ("table", (True,))), [])

    def test_sheets_of_24_fields(self):
        sizes = [3] * 24
        form = ("and", tuple(("is", field, (field % 3,)) for field in (23, 4, 7, 23, 0)))
        self.assertEqual(called(self, named_fields, sizes, form), [0, 4, 7, 23])
        card = ("card", ((0, 0, 0),) * 24, 0)
        self.assertEqual(called(self, named_fields, sizes, ("or", (card, YES))), list(range(24)))


class OrderedTreesTest(unittest.TestCase):
    def see_shape(self, sizes, tree, least=0):
        """See that a tree tests greater fields below smaller ones, and none with equal branches."""
        self.assertIs(is_plain_tree(sizes, tree), True)
        if tree[0] == "tree":
            self.assertGreaterEqual(tree[1], least)
            self.assertNotEqual(tree[2], (tree[2][0],) * len(tree[2]))
            for branch in tree[2]:
                self.see_shape(sizes, branch, tree[1] + 1)

    def test_some_trees(self):
        self.assertEqual(called(self, ordered_tree, [2, 3], ("is", 1, (0, 2))), ("tree", 1, (YES, NO, YES)))
        self.assertEqual(called(self, ordered_tree, [2, 3], ("is", 1, (0, 1, 2))), YES)
        self.assertEqual(called(self, ordered_tree, [2, 3], ("is", 1, ())), NO)
        self.assertEqual(called(self, ordered_tree, [], ("not", YES)), NO)
        self.assertEqual(called(self, ordered_tree, [2, 2], ("odd", (("is", 0, (1,)), ("is", 1, (1,))))),
                         ("tree", 0, (("tree", 1, (NO, YES)), ("tree", 1, (YES, NO)))))
        crossed = ("tree", 1, (("tree", 0, (NO, YES)), ("tree", 0, (YES, YES)), NO))
        self.assertEqual(called(self, ordered_tree, [2, 3], crossed),
                         ("tree", 0, (("tree", 1, (NO, YES, NO)), ("tree", 1, (YES, YES, NO)))))
        self.assertEqual(called(self, ordered_tree, EXAMPLE_SIZES, EXAMPLE),
                         ("tree", 0, (("tree", 1, (NO, ("tree", 2, (NO, NO, YES)))),
                                      ("tree", 1, (("tree", 2, (NO, YES, YES)), YES)))))

    def test_compared_with_the_answers_over_all_cases(self):
        samples = [(SIZES, form) for form in [*PLAIN_TREES, *OTHER_FORMS]]
        for sizes, form in [*samples, *sampled_forms()]:
            tree = called(self, ordered_tree, sizes, form)
            self.see_shape(sizes, tree)
            self.assertEqual(answers(sizes, tree), answers(sizes, form))
            self.assertEqual([told(sizes, tree, case) for case in all_cases(sizes)], list(answers(sizes, form)))
            self.assertEqual(repr(tree), repr(reduced(sizes, form, [None] * len(sizes))))
            self.assertEqual(ordered_tree(sizes, tree), tree)

    def test_the_greatest_small_sheets(self):
        for sizes in ([2] * 10, [4] * 5):
            form = ("odd", tuple(("is", field, (1,)) for field in range(len(sizes))))
            tree = called(self, ordered_tree, sizes, form)
            self.see_shape(sizes, tree)
            self.assertEqual(answers(sizes, tree), answers(sizes, form))
            self.assertEqual(measure(sizes, tree)[1], len(sizes) + 1)
            self.assertEqual(tree, reduced(sizes, form, [None] * len(sizes)))

    def test_equal_trees_exactly_for_the_same_answers(self):
        forms = [form for form, _ in ANSWERS] + [("not", form) for form, _ in ANSWERS]
        forms += [("odd", (form, other)) for (form, _), (other, _) in itertools.combinations(ANSWERS, 2)]
        rows = [(answers([2, 3], form), ordered_tree([2, 3], form)) for form in forms]
        trees_of = {}
        for results, tree in rows:
            trees_of.setdefault(results, tree)
            self.assertEqual(tree, trees_of[results])
        self.assertEqual(len(set(trees_of.values())), len(trees_of))
        self.assertEqual(len(trees_of), len({tree for _, tree in rows}))
        self.assertGreater(len(trees_of), 20)

    def test_all_forms_on_a_sheet_of_six_cases(self):
        trees = [ordered_tree([2, 3], ("table", results)) for results in itertools.product([False, True], repeat=6)]
        self.assertEqual(len(set(trees)), 64)

    def test_sheets_that_are_not_small(self):
        for sizes in ([6, 6, 6, 5], [2] * 11, [6] * 24):
            refused(self, NotSmall, ordered_tree, sizes, YES)
            refused(self, InvalidForm, ordered_tree, sizes, ("is", 24, ()))


class FixedTest(unittest.TestCase):
    def test_some_half_cases(self):
        form = ("tree", 1, (("tree", 0, (NO, YES)), ("tree", 0, (YES, YES)), NO))
        self.assertEqual(called(self, fixed, [2, 3], form, [None, 0]), ("tree", 0, (NO, YES)))
        self.assertEqual(called(self, fixed, [2, 3], form, [None, 1]), YES)
        self.assertEqual(called(self, fixed, [2, 3], form, [None, 2]), NO)
        self.assertEqual(called(self, fixed, [2, 3], form, [0, None]), ("tree", 1, (NO, YES, NO)))
        self.assertEqual(called(self, fixed, [2, 3], form, [1, 2]), NO)
        self.assertEqual(called(self, fixed, [2, 3], form, [1, 0]), YES)
        self.assertEqual(called(self, fixed, [2, 3], form, [None, None]), ordered_tree([2, 3], form))
        self.assertEqual(called(self, fixed, [], ("card", (), 1), []), NO)
        self.assertEqual(called(self, fixed, EXAMPLE_SIZES, EXAMPLE, [1, None, None]),
                         ("tree", 1, (("tree", 2, (NO, YES, YES)), YES)))

    def test_compared_with_the_answers_over_all_cases(self):
        for sizes, form in sampled_forms():
            for half in all_halves(sizes)[::max(1, 3 ** len(sizes) // 9)]:
                tree = called(self, fixed, sizes, form, half)
                self.assertEqual(repr(tree), repr(reduced(sizes, form, half)))
                self.assertIs(is_plain_tree(sizes, tree), True)
                known = [field for field in range(len(sizes)) if half[field] is not None]
                self.assertEqual([field for field in named_fields(sizes, tree) if field in known], [])
                for case in all_cases(sizes):
                    if completes(case, half):
                        self.assertIs(told(sizes, tree, case), told(sizes, form, case))
                    filled = [value if at is None else at for at, value in zip(half, case)]
                    self.assertIs(answer(sizes, tree, case), answer(sizes, form, filled))

    def test_the_greatest_small_sheet(self):
        sizes = [2] * 10
        form = ("odd", tuple(("is", field, (1,)) for field in range(10)))
        half = [None, 1, None, None, 0, None, 1, None, None, 1]
        self.assertEqual(called(self, fixed, sizes, form, half), reduced(sizes, form, half))
        self.assertEqual(called(self, fixed, sizes, form, [1] * 10), NO)

    def test_wrong_half_cases(self):
        for half in (None, 0, (None, None), [], [None], [None] * 3, [2, None], [None, 3], [-1, None], [False, None], "??"):
            refused(self, InvalidHalf, fixed, [2, 3], YES, half)
            refused(self, InvalidForm, fixed, [2, 3], ("say", None), half)
            refused(self, InvalidSizes, fixed, [2, 3, 1], ("say", None), half)

    def test_sheets_that_are_not_small(self):
        for sizes in ([6, 6, 6, 5], [2] * 11, [6] * 24):
            for half in ([None] * len(sizes), [0] * len(sizes), [1] * (len(sizes) - 1) + [None]):
                refused(self, NotSmall, fixed, sizes, YES, half)
            refused(self, InvalidHalf, fixed, sizes, YES, [None] * 3)
            refused(self, InvalidForm, fixed, sizes, ("is", 24, ()), [None] * 3)


if __name__ == "__main__":
    unittest.main()
