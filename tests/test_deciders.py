"""Promises 20 and 21: deciders, their operators and methods, and the ones that count and note their calls."""

import copy
import functools
import itertools
import operator
import random
import unittest

from leastreasons import reasons as of_reasons
from leastreasons.deciders import CountingDecider, CountingNotingDecider, Decider, NotingDecider, common
from leastreasons.errors import InvalidCase, InvalidForm, InvalidSizes, NotSmall, OtherSheet
from tests.brute import some_card, some_case, some_forms, yes_cases
from tests.reference import ANY_VALUES, NO, YES, all_cases, raises, told
from tests.samples import CARD, OTHER_FORMS, PLAIN_TREES, RULES, SIZES, wrong_forms

CLASSES = (Decider, CountingDecider, NotingDecider, CountingNotingDecider)
COUNTING = (CountingDecider, CountingNotingDecider)
NOTING = (NotingDecider, CountingNotingDecider)
EXAMPLE_SIZES = [2, 2, 3]
WEIGHTS = ((0, 2), (0, 1), (0, 1, 2))
EXAMPLE = ("card", WEIGHTS, 3)
FIRST, SECOND, THIRD = ("is", 0, (1,)), ("is", 1, (1,)), ("is", 2, (0, 2))
WRONG_CASES = [None, (0, 0, 0), [0, 0], [0] * 4, [2, 0, 0], [0, 0, -1], [0, None, 0], [0, True, 0], "000", [[0], 0, 0]]

OPERATORS = [("and", operator.and_), ("or", operator.or_), ("odd", operator.xor)]
IN_PLACE = [("and", operator.iand), ("or", operator.ior), ("odd", operator.ixor)]


@functools.cache
def forms_by_sheet():
    """Pairs of sizes and forms, always the same ones."""
    source = random.Random(23)
    found = [(SIZES, [*PLAIN_TREES[:4], *OTHER_FORMS[::4]])]
    for sizes in ([], [2], [6], [3, 2], [2, 2, 3], [2, 2, 2, 2]):
        found.append((sizes, [YES, NO, *some_forms(source, sizes, 6), some_card(source, sizes)]))
    return found


def samples():
    """Pairs of sizes and a form."""
    return [(sizes, form) for sizes, forms in forms_by_sheet() for form in forms]


def state(decider):
    """All that can be seen of a decider but its answers."""
    shown = [decider.__class__, decider.sizes, decider.form]
    return [*shown, getattr(decider, "asked", None), getattr(decider, "noted", None)]


class MakingTest(unittest.TestCase):
    def test_sizes_and_form(self):
        for kind in CLASSES:
            for sizes, form in samples():
                passed = copy.deepcopy((sizes, form))
                for made in (kind(sizes, form), kind(sizes=sizes, form=form), kind(form=form, sizes=sizes)):
                    self.assertEqual(made.sizes, sizes)
                    self.assertEqual(made.form, form)
                self.assertEqual((sizes, form), passed)

    def test_errors_and_their_order(self):
        for kind in CLASSES:
            for sizes in (None, (2, 3, 2), [2, 7], [True], "2", [2] * 25):
                for form in (YES, None, ("say", 1)):
                    raises(self, InvalidSizes, kind, sizes, form)
            for form in wrong_forms()[::9]:
                raises(self, InvalidForm, kind, SIZES, form)
            for form in ANY_VALUES:
                if form != YES:
                    raises(self, InvalidForm, kind, [2] * 11, form)
            raises(self, NotSmall, kind, [2] * 11, YES)
            raises(self, NotSmall, kind, [6] * 24, ("is", 23, (5,)))
            self.assertEqual(kind([2] * 10, YES).sizes, [2] * 10)

    def test_nothing_that_was_passed_is_kept(self):
        for kind in CLASSES:
            sizes = [2, 2]
            made = kind(sizes, FIRST)
            sizes.append(3)
            sizes[0] = 6
            self.assertEqual(made.sizes, [2, 2])
            self.assertIs(made([1, 1]), True)

    def test_a_changed_list_of_a_property_changes_nothing(self):
        for kind in CLASSES:
            made = kind([2, 2], FIRST)
            made.sizes.append(3)
            made.sizes[0] = 5
            self.assertEqual(made.sizes, [2, 2])
            self.assertIsNot(made.sizes, made.sizes)

    def test_deciders_cannot_be_changed(self):
        for kind in CLASSES:
            made = kind([2, 2], FIRST)
            for name, value in (("sizes", [2]), ("form", YES), ("asked", 3), ("noted", [])):
                if hasattr(made, name):
                    with self.assertRaises(AttributeError):
                        setattr(made, name, value)
            self.assertEqual(made.form, FIRST)

    def test_the_classes_under_each_other(self):
        for kind in CLASSES:
            self.assertTrue(issubclass(kind, Decider))
        self.assertTrue(issubclass(CountingNotingDecider, CountingDecider))
        self.assertTrue(issubclass(CountingNotingDecider, NotingDecider))
        self.assertFalse(issubclass(NotingDecider, CountingDecider))
        self.assertFalse(issubclass(CountingDecider, NotingDecider))
        self.assertFalse(hasattr(Decider(SIZES, YES), "asked") or hasattr(Decider(SIZES, YES), "noted"))
        self.assertFalse(hasattr(CountingDecider(SIZES, YES), "noted") or hasattr(NotingDecider(SIZES, YES), "asked"))


class AnswersTest(unittest.TestCase):
    def test_each_case(self):
        for kind in CLASSES:
            for sizes, form in samples():
                decider = kind(sizes, form)
                for case in all_cases(sizes):
                    self.assertIs(decider(case), told(sizes, form, case))
                    self.assertIs(decider(case=case), told(sizes, form, case))
                    self.assertIs(case in decider, told(sizes, form, case))
                self.assertIs(bool(decider), yes_cases(sizes, form) != [])

    def test_wrong_cases(self):
        for kind in CLASSES:
            decider = kind(EXAMPLE_SIZES, EXAMPLE)
            for case in [*WRONG_CASES, *ANY_VALUES]:
                for call in (decider, decider.reasons, decider.turns):
                    with self.assertRaises(InvalidCase):
                        call(case)
                self.assertIs(case in decider, False)
                self.assertIs(case not in decider, True)
            self.assertEqual((getattr(decider, "asked", 0), getattr(decider, "noted", [])), (0, []))

    def test_any_value_in_a_decider(self):
        decider = Decider([2], YES)
        for value in ANY_VALUES:
            # [True] and [1] are equal for Python.
            self.assertIs(value in decider, repr(value) in ("[0]", "[1]"))
        self.assertIs([] in Decider([], YES), True)
        self.assertIs([] in Decider([], NO), False)
        self.assertIs(() in Decider([], YES), False)
        self.assertIs(decider in decider, False)

    def test_reasons_and_turns(self):
        source = random.Random(24)
        for kind in CLASSES:
            for sizes, form in samples():
                decider, case = kind(sizes, form), some_case(source, sizes)
                for found in (decider.reasons(case), decider.reasons(case=case)):
                    self.assertEqual(found, of_reasons.reasons(sizes, form, case))
                for found in (decider.turns(case), decider.turns(case=case)):
                    self.assertEqual(found, of_reasons.turns(sizes, form, case))
        self.assertEqual(Decider(EXAMPLE_SIZES, EXAMPLE).reasons([1, 1, 1]), [[0, 1], [0, 2]])
        self.assertEqual(Decider(EXAMPLE_SIZES, EXAMPLE).turns(case=[1, 1, 1]), [[0], [1, 2]])

    def test_cases_with_yes(self):
        for kind in CLASSES:
            for sizes, form in samples():
                decider = kind(sizes, form)
                self.assertEqual(list(decider.yes_cases()), yes_cases(sizes, form))
                self.assertEqual([case for case in decider.yes_cases()], yes_cases(sizes, form))
        self.assertEqual(list(Decider(SIZES, NO).yes_cases()), [])
        self.assertEqual(list(Decider(SIZES, YES).yes_cases()), all_cases(SIZES))
        self.assertEqual(len(list(Decider([2] * 10, YES).yes_cases())), 1024)

    def test_cases_with_yes_are_iterated_over(self):
        decider = Decider(EXAMPLE_SIZES, EXAMPLE)
        both = [decider.yes_cases(), decider.yes_cases()]
        self.assertEqual(next(both[0]), [0, 1, 2])
        self.assertEqual(next(both[0]), [1, 0, 1])
        self.assertEqual(next(both[1]), [0, 1, 2])
        self.assertEqual(list(both[0]), [[1, 0, 2], [1, 1, 0], [1, 1, 1], [1, 1, 2]])
        self.assertEqual(list(both[0]), [])

    def test_changed_results_change_nothing(self):
        for kind in CLASSES:
            decider = kind(EXAMPLE_SIZES, EXAMPLE)
            for call in (lambda: decider.reasons([1, 1, 1]), lambda: decider.turns([1, 1, 1]),
                         lambda: list(decider.yes_cases())):
                found = call()
                expected = copy.deepcopy(found)
                for part in found:
                    part.append(7)
                found.append([])
                self.assertEqual(call(), expected)
            for case in decider.yes_cases():
                case[0] = 9
            self.assertEqual(next(decider.yes_cases()), [0, 1, 2])

    def test_a_case_that_was_passed_stays(self):
        for kind in CLASSES:
            decider, case = kind(EXAMPLE_SIZES, EXAMPLE), [1, 1, 1]
            decider(case)
            decider.reasons(case)
            decider.turns(case)
            self.assertIs(case in decider, True)
            self.assertEqual(case, [1, 1, 1])


class OperatorsTest(unittest.TestCase):
    def test_the_forms_behind_operators(self):
        for kind, other_kind in itertools.product(CLASSES, CLASSES):
            one, other = kind(EXAMPLE_SIZES, FIRST), other_kind(EXAMPLE_SIZES, THIRD)
            before = state(one), state(other)
            for word, combine in OPERATORS:
                found = combine(one, other)
                self.assertIs(found.__class__, Decider)
                self.assertEqual(found.form, (word, (FIRST, THIRD)))
                self.assertEqual(found.sizes, EXAMPLE_SIZES)
                self.assertEqual(combine(one, one).form, (word, (FIRST, FIRST)))
            self.assertIs((~one).__class__, Decider)
            self.assertEqual((~one).form, ("not", FIRST))
            self.assertEqual((~~one).form, ("not", ("not", FIRST)))
            self.assertEqual((state(one), state(other)), before)

    def test_in_place(self):
        for kind, other_kind in itertools.product(CLASSES, CLASSES):
            for word, combine in IN_PLACE:
                one, other = kind(EXAMPLE_SIZES, FIRST), other_kind(EXAMPLE_SIZES, THIRD)
                one([1, 0, 1])
                one([0, 0, 1])
                before = state(one), state(other)
                kept = one
                one = combine(one, other)
                self.assertIs(one, kept)
                expected = [kind, EXAMPLE_SIZES, (word, (FIRST, THIRD)), *before[0][3:]]
                self.assertEqual((state(kept), state(other)), (expected, before[1]))

    def test_in_place_as_statements(self):
        decider = CountingNotingDecider(EXAMPLE_SIZES, FIRST)
        again = decider
        decider([1, 1, 2])
        decider &= Decider(EXAMPLE_SIZES, SECOND)
        decider |= CountingDecider(EXAMPLE_SIZES, THIRD)
        decider ^= decider
        self.assertIs(again, decider)
        both = ("or", (("and", (FIRST, SECOND)), THIRD))
        self.assertEqual(decider.form, ("odd", (both, both)))
        self.assertEqual((decider.asked, decider.noted), (1, [[1, 1, 2]]))
        self.assertIs(decider([1, 1, 2]), False)
        self.assertEqual((decider.asked, decider.noted), (2, [[1, 1, 2]]))

    def test_answers_behind_operators(self):
        for sizes, forms in forms_by_sheet():
            for one, other in itertools.product(forms[:6], forms[:6]):
                first, second = Decider(sizes, one), NotingDecider(sizes, other)
                for case in all_cases(sizes):
                    results = told(sizes, one, case), told(sizes, other, case)
                    self.assertIs((first & second)(case), all(results))
                    self.assertIs((first | second)(case), any(results))
                    self.assertIs((first ^ second)(case), results[0] != results[1])
                    self.assertIs((~first)(case), not results[0])

    def test_a_result_stays_when_an_operand_is_changed_in_place(self):
        one, other = Decider(EXAMPLE_SIZES, FIRST), Decider(EXAMPLE_SIZES, SECOND)
        both, opposite = one & other, ~one
        one |= other
        self.assertEqual(both.form, ("and", (FIRST, SECOND)))
        self.assertEqual(opposite.form, ("not", FIRST))
        self.assertEqual(other.form, SECOND)

    def test_other_sheets(self):
        for kind, other_kind in itertools.product(CLASSES, CLASSES):
            one = kind(EXAMPLE_SIZES, FIRST)
            for sizes in ([], [2, 2], [2, 2, 2], [3, 2, 2], [2, 2, 3, 2]):
                other = other_kind(sizes, YES)
                before = state(one), state(other)
                calls = [combine for _, combine in [*OPERATORS, *IN_PLACE]]
                for call in [*calls, operator.le, operator.lt, common, lambda *both: common(one, one, *both)]:
                    with self.assertRaises(OtherSheet):
                        call(one, other)
                    with self.assertRaises(OtherSheet):
                        call(other, one)
                self.assertEqual((state(one), state(other)), before)
                self.assertIs(one == other, False)
                self.assertIs(one != other, True)


class ComparisonsTest(unittest.TestCase):
    def test_compared_with_going_through_all_cases(self):
        kinds = itertools.cycle(itertools.product(CLASSES, CLASSES))
        for sizes, forms in forms_by_sheet():
            for one, other in itertools.product(forms, forms):
                kind, other_kind = next(kinds)
                first, second = kind(sizes, one), other_kind(sizes, other)
                of_one, of_other = yes_cases(sizes, one), yes_cases(sizes, other)
                is_within = all(case in of_other for case in of_one)
                self.assertIs(first == second, of_one == of_other)
                self.assertIs(first != second, of_one != of_other)
                self.assertIs(first <= second, is_within)
                self.assertIs(first < second, is_within and of_one != of_other)

    def test_other_values(self):
        for kind in CLASSES:
            decider = kind(EXAMPLE_SIZES, YES)
            for value in [*ANY_VALUES, YES, EXAMPLE_SIZES, object(), Decider, kind]:
                self.assertIs(decider == value, False)
                self.assertIs(decider != value, True)
                self.assertIs(value == decider, False)
                self.assertIs(value != decider, True)

    def test_equal_answers_of_unlike_forms(self):
        one, other = Decider([2, 2], FIRST), CountingDecider([2, 2], ("not", ("is", 0, (0,))))
        self.assertIs(one == other, True)
        self.assertIs(other != one, False)
        self.assertIs(one <= other, True)
        self.assertIs(one < other, False)
        self.assertIs(Decider([2], YES) == Decider([3], YES), False)
        self.assertIs(Decider([], YES) == Decider([], ("and", ())), True)


class CountingTest(unittest.TestCase):
    def test_calls_are_counted_and_noted(self):
        calls = [[1, 0, 2], [0, 0, 0], [1, 0, 2], [1, 1, 1], [0, 0, 0], [1, 0, 2]]
        for kind in (*COUNTING, *NOTING):
            decider = kind(EXAMPLE_SIZES, EXAMPLE)
            for many, case in enumerate(calls):
                self.assertEqual(getattr(decider, "asked", many), many)
                self.assertIs(decider(case), told(EXAMPLE_SIZES, EXAMPLE, case))
            self.assertEqual(getattr(decider, "asked", 6), 6)
            self.assertEqual(getattr(decider, "noted", calls[:2] + calls[3:4]), [[1, 0, 2], [0, 0, 0], [1, 1, 1]])

    def test_at_first(self):
        for sizes, form in samples():
            self.assertEqual(CountingDecider(sizes, form).asked, 0)
            self.assertEqual(NotingDecider(sizes, form).noted, [])
            both = CountingNotingDecider(sizes, form)
            self.assertEqual((both.asked, both.noted), (0, []))

    def test_all_cases_in_any_sequence(self):
        source = random.Random(25)
        for sizes, form in samples():
            cases = all_cases(sizes) * 2
            source.shuffle(cases)
            decider = CountingNotingDecider(sizes, form)
            for case in cases:
                decider(case)
            self.assertEqual(decider.asked, len(cases))
            first = [case for at, case in enumerate(cases) if case not in cases[:at]]
            self.assertEqual(decider.noted, first)

    def test_calls_that_raise_an_error_do_not_count(self):
        decider = CountingNotingDecider(EXAMPLE_SIZES, EXAMPLE)
        decider([1, 1, 1])
        for case in [*WRONG_CASES, *ANY_VALUES]:
            with self.assertRaises(InvalidCase):
                decider(case)
        self.assertEqual((decider.asked, decider.noted), (1, [[1, 1, 1]]))

    def test_nothing_else_counts(self):
        one, other = CountingNotingDecider([2, 2], FIRST), CountingNotingDecider([2, 2], SECOND)
        for use in (operator.and_, operator.or_, operator.xor, operator.eq, operator.ne, operator.le, operator.lt,
                    operator.iand, operator.ior, operator.ixor, common):
            use(one, other)
        self.assertEqual([[1, 1] in one, [1, 1] in other, None in one], [False, True, False])
        self.assertEqual((~one).__class__, Decider)
        bool(one)
        one.reasons([0, 1])
        one.turns([0, 1])
        list(one.yes_cases())
        self.assertEqual((one.sizes, one.form != FIRST), ([2, 2], True))
        for decider in (one, other):
            self.assertEqual((decider.asked, decider.noted), (0, []))

    def test_results_of_operators_do_not_count_for_their_operands(self):
        one = CountingNotingDecider([2, 2], FIRST)
        one([0, 1])
        both = one & one
        both([1, 1])
        (~one)([1, 1])
        common(one)([1, 1])
        self.assertEqual((one.asked, one.noted), (1, [[0, 1]]))

    def test_two_deciders_count_on_their_own(self):
        one, other = CountingNotingDecider([2, 2], FIRST), CountingNotingDecider([2, 2], FIRST)
        one([0, 1])
        one([0, 0])
        other([1, 1])
        self.assertEqual((one.asked, one.noted), (2, [[0, 1], [0, 0]]))
        self.assertEqual((other.asked, other.noted), (1, [[1, 1]]))

    def test_noted_is_a_new_list(self):
        for kind in NOTING:
            decider, case = kind([2, 2], FIRST), [0, 1]
            decider(case)
            case[0] = 1
            noted = decider.noted
            self.assertEqual(noted, [[0, 1]])
            noted[0][1] = 0
            noted.append([1, 1])
            self.assertEqual(decider.noted, [[0, 1]])
            self.assertIsNot(decider.noted[0], decider.noted[0])


class MadeOfTest(unittest.TestCase):
    def test_of_card(self):
        for kind in CLASSES:
            for made, bound in ((kind.of_card(EXAMPLE_SIZES, *WEIGHTS), 0),
                                (kind.of_card(EXAMPLE_SIZES, *WEIGHTS, bound=3), 3),
                                (kind(EXAMPLE_SIZES, YES).of_card(EXAMPLE_SIZES, *WEIGHTS, bound=-5), -5)):
                self.assertIs(made.__class__, kind)
                self.assertEqual((made.sizes, made.form), (EXAMPLE_SIZES, ("card", WEIGHTS, bound)))
                self.assertEqual(list(made.yes_cases()), yes_cases(EXAMPLE_SIZES, made.form))
            self.assertEqual(kind.of_card([]).form, ("card", (), 0))
            self.assertEqual(kind.of_card(sizes=[], bound=1).form, ("card", (), 1))

    def test_wrong_cards(self):
        for kind in CLASSES:
            for weights in ((), WEIGHTS[:2], (*WEIGHTS, (0, 1)), ([0, 2], *WEIGHTS[1:]), (*WEIGHTS[:2], (0, 1)),
                            (*WEIGHTS[:2], (0, 1, True)), (WEIGHTS,), (None, None, None), (0, 1, 2)):
                raises(self, InvalidForm, kind.of_card, EXAMPLE_SIZES, *weights)
                raises(self, InvalidSizes, kind.of_card, (2, 2, 3), *weights)
            for bound in (None, True, "3", [3], (3,)):
                raises(self, InvalidForm, kind.of_card, EXAMPLE_SIZES, *WEIGHTS, bound=bound)
            raises(self, NotSmall, kind.of_card, [2] * 11, *[(0, 1)] * 11)
            raises(self, InvalidForm, kind.of_card, [2] * 11, *[(0, 1)] * 10)

    def test_of_rules(self):
        for kind in CLASSES:
            for made, last in ((kind.of_rules(SIZES, *RULES[1]), False), (kind.of_rules(SIZES, *RULES[1], last=True), True)):
                self.assertIs(made.__class__, kind)
                self.assertEqual((made.sizes, made.form), (SIZES, ("rules", RULES[1], last)))
                self.assertEqual(list(made.yes_cases()), yes_cases(SIZES, made.form))
            self.assertEqual(kind.of_rules(SIZES).form, ("rules", (), False))
            self.assertEqual(kind.of_rules(sizes=SIZES, last=True).form, ("rules", (), True))

    def test_wrong_rules(self):
        for kind in CLASSES:
            for rules in ((RULES[1],), (None,), (((), 1),), (RULES[1][0], [(), True]), (((), True, True),), ((),)):
                raises(self, InvalidForm, kind.of_rules, SIZES, *rules)
                raises(self, InvalidSizes, kind.of_rules, [1], *rules)
            for last in (None, 0, 1, "yes", YES):
                raises(self, InvalidForm, kind.of_rules, SIZES, *RULES[1], last=last)
            raises(self, NotSmall, kind.of_rules, [2] * 11)

    def test_they_are_made_new(self):
        made = CountingNotingDecider.of_card(EXAMPLE_SIZES, *WEIGHTS, bound=3)
        made([1, 1, 1])
        again = made.of_rules(SIZES)
        self.assertIs(again.__class__, CountingNotingDecider)
        self.assertEqual((again.asked, again.noted), (0, []))
        self.assertEqual((made.asked, made.noted), (1, [[1, 1, 1]]))


class CommonTest(unittest.TestCase):
    def test_one_argument(self):
        for kind in CLASSES:
            one = kind(SIZES, CARD)
            for found in (common(one), common(first=one)):
                self.assertIs(found.__class__, Decider)
                self.assertIsNot(found, one)
                self.assertEqual((found.sizes, found.form), (SIZES, ("and", (CARD,))))

    def test_several_arguments_in_their_sequence(self):
        forms = (FIRST, CARD, RULES, FIRST, NO)
        for many in range(1, 6):
            deciders = [CLASSES[at % 4](SIZES, form) for at, form in enumerate(forms[:many])]
            found = common(*deciders)
            self.assertIs(found.__class__, Decider)
            self.assertEqual(found.form, ("and", forms[:many]))
            self.assertEqual(list(found.yes_cases()), yes_cases(SIZES, ("and", forms[:many])))
            self.assertEqual([decider.form for decider in deciders], list(forms[:many]))

    def test_each_other_sheet_is_found(self):
        one, other = Decider(SIZES, CARD), Decider([2, 3], YES)
        for deciders in ((other, one), (one, other), (one, one, other), (one, other, one), (other, one, one)):
            with self.assertRaises(OtherSheet):
                common(*deciders)


if __name__ == "__main__":
    unittest.main()
