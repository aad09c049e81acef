"""Promises 6 and 17: rules, compared with going through all cases and trying every tuple of conditions."""

import functools
import random
import unittest

from leastreasons.errors import InvalidAnswer, InvalidConditions, InvalidForm, InvalidSizes, NoRules, NotSmall
from leastreasons.forms import answers, is_form
from leastreasons.reasons import reasons
from leastreasons.rules import fitting, needed_rules, prime_rules, rules_of, spare_rules, used_rules
from tests.brute import primes_tried, some_card, some_forms
from tests.reference import NO, YES, all_cases, called, fits, refused, some_rule, told
from tests.samples import BEYOND_LIMITS, OTHER_FORMS, PLAIN_TREES, RULES, SIZES, WRONG_CONDITIONS, wrong_forms

EXAMPLE_SIZES = [2, 2, 3]
EXAMPLE = ("card", ((0, 2), (0, 1), (0, 1, 2)), 3)
TEN = [2] * 10
SHEETS = ([], [2], [6], [2, 2], [3, 2], [2, 3, 4], [5, 2, 3], [2, 2, 2, 2], [2, 3, 2, 2])
ALWAYS_YES = [YES, ("and", ()), ("odd", (YES,)), ("not", NO), ("rules", (((), True),), False)]
ALWAYS_NO = [NO, ("or", ()), ("odd", (YES, YES)), ("not", YES), ("rules", (), False)]


@functools.cache
def samples():
    """Pairs of sizes and a form, of each kind, always the same ones."""
    source = random.Random(17)
    found = [(SIZES, form) for form in [*PLAIN_TREES, *OTHER_FORMS]]
    for sizes in SHEETS:
        found += [(sizes, form) for form in some_forms(source, sizes, 8)]
        found += [(sizes, some_card(source, sizes)) for _ in range(3)]
    return found


@functools.cache
def sampled_rules():
    """Pairs of sizes and a form "rules", with equal rules and ones that fit no case among them."""
    source = random.Random(18)
    found = [(SIZES, form) for form in OTHER_FORMS if form[0] == "rules"]
    for sizes in [*SHEETS] * 6:
        rules = [some_rule(source, sizes) for _ in range(source.randrange(7))]
        rules += [source.choice(rules) for _ in range(source.randrange(3)) if rules]
        found.append((sizes, ("rules", tuple(rules), source.random() < 0.5)))
    return found


def rule(result, *conditions):
    """A rule."""
    return (conditions, result)


def without(form, index):
    """A form "rules" in which the rule with this index is taken out."""
    return ("rules", form[1][:index] + form[1][index + 1:], form[2])


class FittingTest(unittest.TestCase):
    def test_no_conditions_fit_all_cases(self):
        for sizes in SHEETS:
            self.assertEqual(called(self, fitting, sizes, ()), len(all_cases(sizes)))
        self.assertEqual(called(self, fitting, TEN, ()), 1024)

    def test_conditions_with_no_values_and_with_all_values(self):
        self.assertEqual(called(self, fitting, SIZES, ((1, ()),)), 0)
        self.assertEqual(called(self, fitting, SIZES, ((0, (0, 1)), (1, ()), (2, (1,)))), 0)
        self.assertEqual(called(self, fitting, SIZES, ((1, (0, 1, 2)),)), 12)
        self.assertEqual(called(self, fitting, SIZES, ((0, (0, 1)), (1, (0, 1, 2)), (2, (0, 1)))), 12)
        self.assertEqual(called(self, fitting, SIZES, ((0, (1,)), (1, (0, 2)))), 4)
        self.assertEqual(called(self, fitting, SIZES, ((0, (1,)), (1, (2,)), (2, (0,)))), 1)

    def test_compared_with_going_through_all_cases(self):
        source = random.Random(19)
        for sizes in [*SHEETS] * 12:
            conditions = some_rule(source, sizes)[0]
            expected = sum(fits(conditions, case) for case in all_cases(sizes))
            self.assertEqual(called(self, fitting, sizes, conditions), expected)

    def test_wrong_conditions(self):
        wrong = [[(0, (1,))], ((1, (0,)), (1, (2,))), ((1, (0,)), (0, (1,))), ((1, (2, 0)),), ((1, (True,)),),
                 ((True, (0,)),), ((3, (0,)),), ((-1, (0,)),), ((0, (0,), 0),), ((0,),), ((0, (2,)),), ((0, (-1,)),),
                 ((0, 1),), ((0, [1]),), ([0, (1,)],), True, (((0, (1,)),), True), RULES, RULES[1][0], RULES[1]]
        for conditions in [*WRONG_CONDITIONS, *wrong]:
            refused(self, InvalidConditions, fitting, SIZES, conditions)
            refused(self, InvalidSizes, fitting, tuple(SIZES), conditions)
        refused(self, InvalidConditions, fitting, [], ((0, ()),))

    def test_not_small_behind_wrong_conditions(self):
        refused(self, NotSmall, fitting, [2] * 11, ())
        refused(self, NotSmall, fitting, [2] * 11, ((10, (1,)),))
        refused(self, InvalidConditions, fitting, [2] * 11, ((11, (1,)),))


class UsedAndSpareTest(unittest.TestCase):
    def test_no_rules(self):
        for sizes in SHEETS:
            for last in (True, False):
                self.assertEqual(called(self, used_rules, sizes, ("rules", (), last)), [])
                self.assertEqual(called(self, spare_rules, sizes, ("rules", (), last)), [])

    def test_equal_rules(self):
        same = rule(True, (0, (1,)))
        form = ("rules", (same, same, same), False)
        self.assertEqual(called(self, used_rules, SIZES, form), [0])
        self.assertEqual(called(self, spare_rules, SIZES, form), [0, 1, 2])
        form = ("rules", (same, rule(False, (0, (1,))), same), False)
        self.assertEqual(called(self, used_rules, SIZES, form), [0])
        self.assertEqual(called(self, spare_rules, SIZES, form), [1, 2])

    def test_rules_that_are_never_first(self):
        form = ("rules", (rule(True, (1, (0, 1))), rule(False, (1, (1,)), (2, (0,))), rule(False)), True)
        self.assertEqual(called(self, used_rules, SIZES, form), [0, 2])
        self.assertEqual(called(self, spare_rules, SIZES, form), [1])
        form = ("rules", (rule(True), rule(False), rule(True, (0, (0,)))), False)
        self.assertEqual(called(self, used_rules, SIZES, form), [0])
        self.assertEqual(called(self, spare_rules, SIZES, form), [1, 2])

    def test_rules_that_fit_no_case(self):
        form = ("rules", (rule(True, (0, ())), rule(False, (1, ()), (2, (0,))), rule(True, (2, (1,)))), False)
        self.assertEqual(called(self, used_rules, SIZES, form), [2])
        self.assertEqual(called(self, spare_rules, SIZES, form), [0, 1])

    def test_two_rules_that_cannot_both_be_taken_out(self):
        form = ("rules", (rule(True, (0, (1,))), rule(True, (0, (1,)), (1, (0, 1, 2)))), False)
        self.assertEqual(called(self, used_rules, SIZES, form), [0])
        self.assertEqual(called(self, spare_rules, SIZES, form), [0, 1])
        both_out = without(without(form, 1), 0)
        self.assertNotEqual(answers(SIZES, both_out), answers(SIZES, form))

    def test_a_used_rule_that_is_spare_beside_the_last_answer(self):
        form = ("rules", (rule(False, (0, (1,))), rule(False, (1, (2,)))), False)
        self.assertEqual(called(self, used_rules, SIZES, form), [0, 1])
        self.assertEqual(called(self, spare_rules, SIZES, form), [0, 1])

    def test_the_sheet_without_fields(self):
        form = ("rules", (rule(True), rule(False), rule(True)), False)
        self.assertEqual(called(self, used_rules, [], form), [0])
        self.assertEqual(called(self, spare_rules, [], form), [1, 2])

    def test_compared_with_going_through_all_cases(self):
        for sizes, form in sampled_rules():
            first = [next((at for at, part in enumerate(form[1]) if fits(part[0], case)), None)
                     for case in all_cases(sizes)]
            whole = range(len(form[1]))
            self.assertEqual(called(self, used_rules, sizes, form), [at for at in whole if at in first])
            expected = [at for at in whole if answers(sizes, without(form, at)) == answers(sizes, form)]
            self.assertEqual(called(self, spare_rules, sizes, form), expected)

    def test_rules_beyond_the_limits_of_use(self):
        form = BEYOND_LIMITS[2]
        self.assertEqual(called(self, used_rules, SIZES, form), [0])
        self.assertEqual(called(self, spare_rules, SIZES, form), list(range(300)))

    def test_wrong_rules(self):
        for function in (used_rules, spare_rules):
            for wrong in wrong_forms()[::5]:
                refused(self, InvalidForm, function, SIZES, wrong)
            for form in [*PLAIN_TREES, *OTHER_FORMS, ("not", RULES), ("and", (RULES,)), ("or", (RULES, RULES))]:
                if form[0] != "rules":
                    refused(self, NoRules, function, SIZES, form)
            refused(self, NoRules, function, [2] * 11, YES)
            refused(self, InvalidForm, function, [2] * 11, ("rules", ()))
            refused(self, NotSmall, function, [2] * 11, ("rules", (), True))
            refused(self, InvalidSizes, function, [2, 1], YES)


class PrimeRulesTest(unittest.TestCase):
    def test_the_example_of_the_document(self):
        expected = [((0, 1), (1, 1)), ((0, 1), (2, 1)), ((0, 1), (2, 2)), ((1, 1), (2, 2))]
        self.assertEqual(called(self, prime_rules, EXAMPLE_SIZES, EXAMPLE, True), expected)
        expected = [((0, 0), (1, 0)), ((0, 0), (2, 0)), ((0, 0), (2, 1)), ((1, 0), (2, 0))]
        self.assertEqual(called(self, prime_rules, EXAMPLE_SIZES, EXAMPLE, False), expected)

    def test_compared_with_trying_every_tuple_of_conditions(self):
        for sizes, form in samples():
            for result in (True, False):
                expected = primes_tried(sizes, form, result)
                self.assertEqual(called(self, prime_rules, sizes, form, result), expected, form)

    def test_forms_with_one_answer_for_all_cases(self):
        for sizes in [*SHEETS, TEN]:
            for forms, result in ((ALWAYS_YES, True), (ALWAYS_NO, False)):
                for form in forms:
                    self.assertEqual(called(self, prime_rules, sizes, form, result), [()])
                    self.assertEqual(called(self, prime_rules, sizes, form, not result), [])
                    self.assertEqual(called(self, needed_rules, sizes, form, result), [()])
                    self.assertEqual(called(self, needed_rules, sizes, form, not result), [])

    def test_shorter_ones_first(self):
        form = ("or", (("is", 2, (1,)), ("and", (("is", 0, (1,)), ("is", 1, (0, 2))))))
        self.assertEqual(prime_rules(SIZES, form, True), [((2, 1),), ((0, 1), (1, 0)), ((0, 1), (1, 2))])
        self.assertEqual(prime_rules(SIZES, form, False), [((0, 0), (2, 0)), ((1, 1), (2, 0))])

    def test_values_of_great_fields(self):
        form = ("is", 1, (0, 2, 3, 5))
        self.assertEqual(prime_rules([2, 6], form, True), [((1, 0),), ((1, 2),), ((1, 3),), ((1, 5),)])
        self.assertEqual(prime_rules([2, 6], form, False), [((1, 1),), ((1, 4),)])

    def test_ten_fields(self):
        card = ("card", ((0, 1),) * 10, 4)
        found = called(self, prime_rules, TEN, card, True)
        self.assertEqual(len(found), 210)
        self.assertEqual(found[0], ((0, 1), (1, 1), (2, 1), (3, 1)))
        self.assertEqual(found[-1], ((6, 1), (7, 1), (8, 1), (9, 1)))
        self.assertEqual(found, sorted(found))
        odd = ("odd", tuple(("is", field, (1,)) for field in range(10)))
        self.assertEqual(len(called(self, prime_rules, TEN, odd, False)), 512)

    def test_the_ones_that_fit_a_case_are_its_reasons(self):
        for sizes, form in samples():
            for case in all_cases(sizes):
                found = prime_rules(sizes, form, told(sizes, form, case))
                of_case = [[field for field, _ in part] for part in found
                           if all(case[field] == value for field, value in part)]
                self.assertEqual(of_case, reasons(sizes, form, case))

    def test_each_for_yes_differs_from_each_for_no(self):
        for sizes, form in samples():
            for upper in prime_rules(sizes, form, True):
                for lower in prime_rules(sizes, form, False):
                    self.assertTrue(any(field == other and value != second
                                        for field, value in upper for other, second in lower))

    def test_rules_are_tuples_of_tuples_and_the_list_is_new(self):
        for function in (prime_rules, needed_rules):
            found = function(EXAMPLE_SIZES, EXAMPLE, True)
            self.assertIs(found.__class__, list)
            for part in found:
                self.assertIs(part.__class__, tuple)
                self.assertEqual({condition.__class__ for condition in part}, {tuple})
            expected = list(found)
            found.reverse()
            del found[0]
            self.assertEqual(function(EXAMPLE_SIZES, EXAMPLE, True), expected)

    def test_wrong_arguments(self):
        for function in (prime_rules, needed_rules):
            for result in (None, 0, 1, "yes", "", (), (True,), [False], YES):
                refused(self, InvalidAnswer, function, SIZES, YES, result)
                refused(self, InvalidForm, function, SIZES, ["say", True], result)
                refused(self, InvalidAnswer, function, [2] * 11, YES, result)
            refused(self, NotSmall, function, [2] * 11, YES, True)
            refused(self, InvalidSizes, function, [7], YES, 0)


class NeededRulesTest(unittest.TestCase):
    def test_compared_with_going_through_all_cases(self):
        for sizes, form in samples():
            for result in (True, False):
                primes = primes_tried(sizes, form, result)
                needed = set()
                for case in all_cases(sizes):
                    of_case = [part for part in primes if all(case[field] == value for field, value in part)]
                    if len(of_case) == 1:
                        needed.add(of_case[0])
                expected = [part for part in primes if part in needed]
                self.assertEqual(called(self, needed_rules, sizes, form, result), expected)

    def test_a_rule_that_is_not_needed(self):
        form = ("tree", 0, (("is", 1, (1,)), ("is", 2, (1,))))
        self.assertEqual(prime_rules([2, 2, 2], form, True), [((0, 0), (1, 1)), ((0, 1), (2, 1)), ((1, 1), (2, 1))])
        self.assertEqual(called(self, needed_rules, [2, 2, 2], form, True), [((0, 0), (1, 1)), ((0, 1), (2, 1))])

    def test_no_rule_is_needed(self):
        form = ("not", ("or", (("and", tuple(("is", field, (0,)) for field in range(3))),
                               ("and", tuple(("is", field, (1,)) for field in range(3))))))
        self.assertEqual(len(prime_rules([2, 2, 2], form, True)), 6)
        self.assertEqual(called(self, needed_rules, [2, 2, 2], form, True), [])


class RulesOfTest(unittest.TestCase):
    def test_the_answers_stay(self):
        for sizes, form in samples():
            found = called(self, rules_of, sizes, form)
            self.assertIs(is_form(sizes, found), True)
            self.assertEqual(answers(sizes, found), answers(sizes, form))
            primes = prime_rules(sizes, form, True)
            conditions = [tuple((field, (value,)) for field, value in part) for part in primes]
            self.assertEqual(found, ("rules", tuple((part, True) for part in conditions), False))

    def test_one_answer_for_all_cases(self):
        for sizes in SHEETS:
            for form in ALWAYS_YES:
                self.assertEqual(called(self, rules_of, sizes, form), ("rules", (((), True),), False))
            for form in ALWAYS_NO:
                self.assertEqual(called(self, rules_of, sizes, form), ("rules", (), False))

    def test_returned_forms_of_any_size_may_be_passed_back(self):
        odd = ("odd", tuple(("is", field, (1,)) for field in range(10)))
        found = called(self, rules_of, TEN, odd)
        self.assertEqual(len(found[1]), 512)
        self.assertEqual(rules_of(TEN, found), found)
        self.assertEqual(called(self, used_rules, TEN, found), list(range(512)))
        self.assertEqual(called(self, spare_rules, TEN, found), [])
        self.assertEqual(called(self, fitting, TEN, found[1][100][0]), 1)

    def test_wrong_arguments(self):
        refused(self, InvalidForm, rules_of, SIZES, ("yes",))
        refused(self, InvalidForm, rules_of, [2] * 11, ("table", (True,) * 2048))
        refused(self, NotSmall, rules_of, [2] * 11, YES)


if __name__ == "__main__":
    unittest.main()
