"""Promises 6 and 18: what is sure, and the fewest questions, compared with all cases and with every plan."""

import functools
import itertools
import random
import unittest

from leastreasons.asking import ask_plan, fewest_asks, first_asks, greatest_reason, outlook, sure
from leastreasons.errors import InvalidAnswer, InvalidForm, InvalidHalf, InvalidSizes, NotSmall
from leastreasons.forms import answers, fixed, is_plain_tree
from leastreasons.sheets import completing, count_cases
from leastreasons.trees import ways
from tests.brute import every_plan, forcing_sets, most_asks, some_card, some_forms
from tests.reference import NO, YES, all_cases, all_halves, called, completes, refused, told
from tests.samples import OTHER_FORMS, PLAIN_TREES, SIZES

EXAMPLE_SIZES = [2, 2, 3]
EXAMPLE = ("card", ((0, 2), (0, 1), (0, 1, 2)), 3)
SEVEN = [2] * 7
TEN = [2] * 10


@functools.cache
def samples():
    """Pairs of sizes and a form, of each kind, always the same ones."""
    source = random.Random(20)
    found = [(SIZES, form) for form in [*PLAIN_TREES, *OTHER_FORMS]]
    for sizes in ([], [2], [6], [2, 2], [3, 2], [2, 3, 2], [4, 2, 3], [2, 2, 2]):
        found += [(sizes, form) for form in some_forms(source, sizes, 8)]
        found += [(sizes, some_card(source, sizes)) for _ in range(3)]
    return found


@functools.cache
def great_samples():
    """Tuples of sizes, a form and a half case with more unknown fields."""
    source = random.Random(21)
    found = []
    for sizes in (SEVEN, [2] * 5, [3] * 5, [4, 4, 4, 4, 3], [6, 5, 4, 3], [2, 2, 2, 2, 3, 3], TEN, [2, 3, 2, 4, 2, 2, 2]):
        for form in [*some_forms(source, sizes, 4), some_card(source, sizes, 3)]:
            half = [source.choice([None, None, None, source.randrange(size)]) for size in sizes]
            for field in range(len(sizes)):
                if product_of_unknown(sizes, half) > 2500:
                    half[field] = 0
            found.append((sizes, form, half))
    return found


def product_of_unknown(sizes, half):
    """The product of (size + 1) over the unknown fields."""
    product = 1
    for size, value in zip(sizes, half):
        product *= size + 1 if value is None else 1
    return product


def results_of(sizes, form, half):
    """The answers for the cases that complete a half case."""
    return [told(sizes, form, case) for case in all_cases(sizes) if completes(case, half)]


def least_asks(sizes, form, half):
    """The fewest questions, by trying each field first."""
    found = {}

    def from_here(known, rows):
        if known not in found:
            found[known] = 0
            if len({result for _, result in rows}) == 2:
                found[known] = min(by_field(known, rows, field) for field, value in enumerate(known) if value is None)
        return found[known]

    def by_field(known, rows, field):
        counts = []
        for value in range(sizes[field]):
            behind = [row for row in rows if row[0][field] == value]
            counts.append(from_here((*known[:field], value, *known[field + 1:]), behind))
        return 1 + max(counts)

    cases = [case for case in all_cases(sizes) if completes(case, half)]
    return from_here(tuple(half), [(case, told(sizes, form, case)) for case in cases])


class SureTest(unittest.TestCase):
    def test_every_half_case(self):
        for sizes, form in samples():
            for half in all_halves(sizes):
                results = results_of(sizes, form, half)
                expected = results[0] if len(set(results)) == 1 else None
                self.assertIs(called(self, sure, sizes, form, half), expected)
                self.assertEqual(called(self, outlook, sizes, form, half), (results.count(True), results.count(False)))

    def test_none_some_and_all_fields_known(self):
        self.assertIs(called(self, sure, EXAMPLE_SIZES, EXAMPLE, [None, None, None]), None)
        self.assertIs(called(self, sure, EXAMPLE_SIZES, EXAMPLE, [1, None, 1]), True)
        self.assertIs(called(self, sure, EXAMPLE_SIZES, EXAMPLE, [0, 0, None]), False)
        self.assertIs(called(self, sure, EXAMPLE_SIZES, EXAMPLE, [1, None, 0]), None)
        self.assertIs(called(self, sure, EXAMPLE_SIZES, EXAMPLE, [1, 1, 0]), True)
        self.assertEqual(called(self, outlook, EXAMPLE_SIZES, EXAMPLE, [None, None, None]), (6, 6))
        self.assertEqual(called(self, outlook, EXAMPLE_SIZES, EXAMPLE, [1, None, None]), (5, 1))
        self.assertEqual(called(self, outlook, EXAMPLE_SIZES, EXAMPLE, [0, 1, 2]), (1, 0))
        self.assertEqual(called(self, outlook, [], NO, []), (0, 1))
        self.assertIs(called(self, sure, [], YES, []), True)

    def test_small_sheets_that_are_not_askable(self):
        self.assertIs(called(self, sure, TEN, YES, [None] * 10), True)
        self.assertEqual(called(self, outlook, TEN, ("is", 4, (1,)), [None] * 10), (512, 512))
        self.assertEqual(called(self, outlook, [4] * 5, ("is", 4, (1,)), [None] * 5), (256, 768))

    def test_wrong_arguments(self):
        for function in (sure, outlook, fewest_asks, first_asks, ask_plan):
            for half in (None, (None,) * 3, [None] * 2, [None] * 4, [0, 0, 2], [0, 0, True], [-1, None, 0], "???", [[]] * 3):
                refused(self, InvalidHalf, function, SIZES, YES, half)
                refused(self, InvalidForm, function, SIZES, ("yes",), half)
            refused(self, InvalidHalf, function, [2] * 11, YES, [None] * 10)
            refused(self, NotSmall, function, [2] * 11, YES, [None] * 11)
            refused(self, NotSmall, function, [2] * 11, YES, [0] * 11)
            refused(self, InvalidSizes, function, (2, 2), ("yes",), None)


class GreatestReasonTest(unittest.TestCase):
    def test_compared_with_going_through_all_cases(self):
        for sizes, form in samples():
            for result in (True, False):
                lengths = [min(len(fields) for fields in forcing_sets(sizes, form, case))
                           for case in all_cases(sizes) if told(sizes, form, case) == result]
                self.assertEqual(called(self, greatest_reason, sizes, form, result), max(lengths, default=0))

    def test_forms_with_one_answer(self):
        for sizes in ([], [2], [3, 4], TEN):
            for form in (YES, NO, ("and", ()), ("odd", (YES, YES)), ("not", YES)):
                for result in (True, False):
                    self.assertEqual(called(self, greatest_reason, sizes, form, result), 0)

    def test_the_shortest_reason_of_a_case_counts(self):
        # The case with 1 in all fields has a reason of one field and one of two; no case with yes needs more than two.
        form = ("or", (("is", 0, (1,)), ("and", (("is", 1, (1,)), ("is", 2, (1,))))))
        self.assertEqual(greatest_reason([2, 2, 2], form, True), 2)
        self.assertEqual(greatest_reason([2, 2, 2], ("or", (form, ("is", 2, (0,)), ("is", 1, (0,)))), True), 0)
        form = ("or", (("is", 0, (1,)), ("and", (("is", 0, (1,)), ("is", 1, (1,))))))
        self.assertEqual(greatest_reason([2, 2, 2], form, True), 1)

    def test_a_reason_that_no_case_has_as_its_shortest_one(self):
        # ((1, 1), (2, 1), (3, 1), (4, 1)) is a prime rule, but each case that it fits has a reason of three fields, too.
        both = [("and", (("is", field, (1,)), ("is", field + 1, (1,)))) for field in (1, 3)]
        self.assertEqual(greatest_reason([2] * 5, ("tree", 0, tuple(both)), True), 3)
        self.assertEqual(greatest_reason(TEN, ("card", ((0, 1),) * 10, 4), True), 4)
        self.assertEqual(greatest_reason(TEN, ("card", ((0, 1),) * 10, 4), False), 7)

    def test_wrong_arguments(self):
        for result in (None, 0, 1, "no", (), [True], YES):
            refused(self, InvalidAnswer, greatest_reason, SIZES, YES, result)
            refused(self, InvalidAnswer, greatest_reason, [2] * 11, YES, result)
            refused(self, InvalidForm, greatest_reason, SIZES, None, result)
        refused(self, NotSmall, greatest_reason, [2] * 11, YES, True)


class FewestAsksTest(unittest.TestCase):
    def test_compared_with_every_plan(self):
        for sizes, form in samples():
            for half in all_halves(sizes):
                plans = every_plan(sizes, form, half)
                fewest = min(most_asks(plan) for plan in plans)
                best = [plan for plan in plans if most_asks(plan) == fewest]
                first = sorted({plan[1] for plan in best if plan[0] == "tree"})
                self.assertEqual(called(self, fewest_asks, sizes, form, half), fewest)
                self.assertEqual(called(self, first_asks, sizes, form, half), first)
                self.assertIn(called(self, ask_plan, sizes, form, half), best)

    def test_more_fields(self):
        for sizes, form, half in great_samples():
            fewest = least_asks(sizes, form, half)
            self.assertEqual(called(self, fewest_asks, sizes, form, half), fewest)
            expected = []
            for field in [field for field, value in enumerate(half) if value is None and fewest > 0]:
                behind = [[*half[:field], value, *half[field + 1:]] for value in range(sizes[field])]
                if 1 + max(least_asks(sizes, form, one) for one in behind) == fewest:
                    expected.append(field)
            self.assertEqual(called(self, first_asks, sizes, form, half), expected)
            plan = called(self, ask_plan, sizes, form, half)
            self.assertEqual(most_asks(plan), fewest)
            self.see_plan(sizes, form, half, plan)

    def see_plan(self, sizes, form, half, plan):
        """See that a plan has the right answers, a "say" exactly where they are sure, and asks for unknown fields."""
        self.assertIs(is_plain_tree(sizes, plan), True)
        results = set(results_of(sizes, form, half))
        if plan[0] == "say":
            self.assertEqual(results, {plan[1]})
            return
        self.assertEqual(results, {True, False})
        self.assertIs(half[plan[1]], None)
        for value, branch in enumerate(plan[2]):
            self.see_plan(sizes, form, [*half[:plan[1]], value, *half[plan[1] + 1:]], branch)

    def test_sure_half_cases(self):
        for sizes, form, half in (([], YES, []), (SIZES, NO, [None] * 3), (SIZES, ("is", 1, (2,)), [None, 2, None]),
                                  (EXAMPLE_SIZES, EXAMPLE, [1, 1, None]), ([4, 4, 4, 4, 3], ("or", ()), [None] * 5)):
            self.assertEqual(called(self, fewest_asks, sizes, form, half), 0)
            self.assertEqual(called(self, first_asks, sizes, form, half), [])
            self.assertEqual(called(self, ask_plan, sizes, form, half), ("say", sure(sizes, form, half)))

    def test_forms_for_which_every_field_is_asked(self):
        ones = tuple(("is", field, (1,)) for field in range(7))
        for word in ("and", "or", "odd"):
            self.assertEqual(called(self, fewest_asks, SEVEN, (word, ones), [None] * 7), 7)
            self.assertEqual(called(self, first_asks, SEVEN, (word, ones), [None] * 7), list(range(7)))
        half = [None, 1, None, None, 1, 1, None]
        self.assertEqual(called(self, fewest_asks, SEVEN, ("odd", ones), half), 4)
        self.assertEqual(called(self, first_asks, SEVEN, ("odd", ones), half), [0, 2, 3, 6])

    def test_the_right_field_first(self):
        form = ("tree", 2, (("is", 0, (1,)), ("is", 1, (1,)), ("is", 3, (1,)), ("is", 4, (1,))))
        sizes = [2, 2, 4, 2, 2]
        self.assertEqual(called(self, fewest_asks, sizes, form, [None] * 5), 2)
        self.assertEqual(called(self, first_asks, sizes, form, [None] * 5), [2])
        self.assertEqual(called(self, ask_plan, sizes, form, [None] * 5)[:2], ("tree", 2))
        self.assertEqual(called(self, first_asks, sizes, form, [None, None, 3, None, None]), [4])

    def test_half_cases_at_the_limit(self):
        # 5 * 5 * 5 * 5 * 4 is 2,500; next to it on small sheets are 6 * 5 * 3 * 3 * 3 * 3 and 7 * 6 * 5 * 4 * 3.
        for sizes, product in (([4, 4, 4, 4, 3], 2500), ([5, 4, 2, 2, 2, 2], 2430), ([6, 5, 4, 3, 2], 2520), (TEN, 3 ** 10)):
            half = [None] * len(sizes)
            self.assertEqual(product_of_unknown(sizes, half), product)
            for form in (YES, ("is", 0, (1,)), ("and", (("is", 1, (1,)), ("is", 2, (0,))))):
                for function in (fewest_asks, first_asks, ask_plan):
                    if product > 2500:
                        refused(self, NotSmall, function, sizes, form, half)
                    else:
                        called(self, function, sizes, form, half)
            self.assertIs(called(self, sure, sizes, YES, half), True)
        between = [product for product in products_of_small_sheets() if 2430 < product < 2520]
        self.assertEqual(between, [2500])

    def test_known_fields_count_not(self):
        half = [None] * 7 + [0, 1, 0]
        ones = ("and", tuple(("is", field, (1,)) for field in range(7)))
        self.assertEqual(called(self, fewest_asks, TEN, ones, half), 7)
        self.assertEqual(called(self, first_asks, TEN, ones, [1] * 3 + [None] * 7), list(range(3, 7)))
        self.assertEqual(fewest_asks(TEN, ones, [None] * 5 + [1, 1, None, None, 0]), 5)
        for at in (7, 8, 9):
            refused(self, NotSmall, fewest_asks, TEN, ones, [*half[:at], None, *half[at + 1:]])
        self.assertEqual(called(self, fewest_asks, [6, 5, 4, 3, 2], ("is", 4, (1,)), [5] + [None] * 4), 1)

    def test_between_the_greatest_reasons_and_their_product(self):
        for sizes, form in samples():
            half = [None] * len(sizes)
            upper, lower = greatest_reason(sizes, form, True), greatest_reason(sizes, form, False)
            fewest = fewest_asks(sizes, form, half)
            self.assertGreaterEqual(fewest, max(upper, lower))
            if sure(sizes, form, half) is None:
                self.assertLessEqual(fewest, upper * lower)

    def test_a_plan_has_the_answers_of_the_form(self):
        for sizes, form in samples():
            half = [None] * len(sizes)
            plan = ask_plan(sizes, form, half)
            self.assertEqual(answers(sizes, plan), answers(sizes, form))
            self.assertEqual(max(len(conditions) for conditions, _ in ways(sizes, plan)), fewest_asks(sizes, form, half))
        for sizes, form, half in great_samples():
            plan = ask_plan(sizes, form, half)
            self.assertEqual(fixed(sizes, plan, half), fixed(sizes, form, half))

    def test_returned_plans_may_be_passed_back(self):
        ones = ("odd", tuple(("is", field, (1,)) for field in range(7)))
        plan = ask_plan(SEVEN, ones, [None] * 7)
        self.assertEqual(ask_plan(SEVEN, plan, [None] * 7), plan)
        self.assertEqual(outlook(SEVEN, plan, [0] + [None] * 6), (32, 32))

    def test_a_changed_list_changes_no_later_one(self):
        first = first_asks(EXAMPLE_SIZES, EXAMPLE, [None] * 3)
        first.append(7)
        first[0] = 9
        self.assertEqual(first_asks(EXAMPLE_SIZES, EXAMPLE, [None] * 3), [0, 1, 2])


def products_of_small_sheets():
    """The products of (size + 1) over all fields, of all small sheets."""
    found = set()
    for many in range(11):
        for sizes in itertools.combinations_with_replacement(range(2, 7), many):
            if count_cases(list(sizes)) <= 1024:
                found.add(product_of_unknown(sizes, [None] * many))
    return sorted(found)


class WholeTest(unittest.TestCase):
    def test_the_whole_outlook(self):
        for sizes, form, half in great_samples():
            yes, no = outlook(sizes, form, half)
            self.assertEqual(yes + no, len(completing(sizes, half)))
            expected = {(True, False): None, (True, True): True, (False, False): False}
            self.assertIs(sure(sizes, form, half), expected[(yes > 0, no == 0)])


if __name__ == "__main__":
    unittest.main()
