"""Promises 5, 6 and 10 to 12: reasons and turns, compared with going through all cases."""

import copy
import functools
import itertools
import random
import unittest

from leastreasons.errors import InvalidCosts, InvalidFields, NoReason, NotSmall, NoTurn
from leastreasons.families import least_sets, meeting
from leastreasons.reasons import (can_turn, cheapest_reason, cheapest_turn, distance, forces, idle, needed,
                                  reason_by, reason_cases, reasons, shows_reason, shows_turn, turned_case, turns)
from tests.brute import (changes, forcing_sets, least, left_out, sets_below, some_card, some_case, some_forms,
                         turning_sets)
from tests.reference import ANY_VALUES, NO, YES, all_cases, called, refused, told
from tests.samples import CARD, OTHER_FORMS, PLAIN_TREES, RULES, SIZES, TABLE

EXAMPLE_SIZES = [2, 2, 3]
EXAMPLE = ("card", ((0, 2), (0, 1), (0, 1, 2)), 3)
EXAMPLE_CASE = [1, 1, 1]

TEN = [2] * 10
ONES = tuple(("is", field, (1,)) for field in range(10))
HALF_OF_TEN = ("card", ((0, 1),) * 10, 5)


@functools.cache
def samples():
    """Tuples of sizes, a form and a case, always the same ones."""
    source = random.Random(12)
    found = [(SIZES, form, some_case(source, SIZES)) for form in [*PLAIN_TREES, *OTHER_FORMS] for _ in range(2)]
    for sizes in ([], [2], [6], [2, 2], [3, 2], [2, 3, 4], [5, 2, 3], [2, 2, 2, 2], [2, 2, 2, 2, 3]):
        forms = some_forms(source, sizes, 12) + [some_card(source, sizes) for _ in range(4)]
        found += [(sizes, form, some_case(source, sizes)) for form in forms]
    return [(sizes, form, case, forcing_sets(sizes, form, case)) for sizes, form, case in found]


@functools.cache
def great_samples():
    """Such tuples on the greatest small sheets."""
    source = random.Random(13)
    found = [(TEN, ("odd", ONES[:7]), some_case(source, TEN)), (TEN, ("or", ONES), [0] * 10)]
    found += [(TEN, ("or", (("and", ONES[:4]), ("and", ONES[3:9]))), [1, 0] * 5)]
    for sizes in (TEN, [4] * 5, [2, 4, 2, 4, 2, 2, 2], [6, 5, 4, 3, 2]):
        found += [(sizes, some_card(source, sizes, 3), some_case(source, sizes)) for _ in range(2)]
    return [(sizes, form, case, forcing_sets(sizes, form, case)) for sizes, form, case in found]


def agrees(case, other, fields):
    """Whether two cases have the same values in all of the fields."""
    return all(case[field] == other[field] for field in fields)


class SetsTest(unittest.TestCase):
    def test_the_example_of_the_document(self):
        passed = (EXAMPLE_SIZES, EXAMPLE, EXAMPLE_CASE)
        self.assertEqual(called(self, reasons, *passed), [[0, 1], [0, 2]])
        self.assertEqual(called(self, turns, *passed), [[0], [1, 2]])
        self.assertEqual(called(self, needed, *passed), [0])
        self.assertEqual(called(self, idle, *passed), [])
        self.assertIs(called(self, forces, *passed, [0, 2]), True)
        self.assertIs(called(self, forces, *passed, [1, 2]), False)
        self.assertIs(called(self, can_turn, *passed, [1, 2]), True)
        self.assertIs(called(self, can_turn, *passed, [2]), False)

    def test_which_sets_force_and_can_turn(self):
        for sizes, form, case, forcing in samples():
            turning = turning_sets(sizes, form, case)
            for fields in sets_below(len(sizes)):
                self.assertIs(called(self, forces, sizes, form, case, fields), fields in forcing)
                self.assertIs(called(self, can_turn, sizes, form, case, fields), fields in turning)
                # F1: a set forces exactly if the set of the other fields cannot turn.
                others = [field for field in range(len(sizes)) if field not in fields]
                self.assertIs(forces(sizes, form, case, fields), not can_turn(sizes, form, case, others))

    def test_reasons_and_turns(self):
        for sizes, form, case, forcing in [*samples(), *great_samples()]:
            self.assertEqual(called(self, reasons, sizes, form, case), least(forcing), form)
            turning = [sorted(change) for change in changes(sizes, form, case)]
            self.assertEqual(called(self, turns, sizes, form, case), least(turning), form)

    def test_turns_are_the_least_sets_that_can_turn(self):
        for sizes, form, case, _ in samples():
            self.assertEqual(turns(sizes, form, case), least(turning_sets(sizes, form, case)))

    def test_each_family_meets_the_other_one(self):
        for sizes, form, case, _ in [*samples(), *great_samples()]:
            both = reasons(sizes, form, case), turns(sizes, form, case)
            self.assertEqual(meeting(len(sizes), both[0]), both[1])
            self.assertEqual(meeting(len(sizes), both[1]), both[0])
            self.assertEqual([least_sets(len(sizes), family) for family in both], list(both))

    def test_one_answer_for_all_cases(self):
        sheets = [([], []), ([2], [1]), ([2, 3, 2], [0, 2, 1]), (TEN, [1] * 10)]
        for (sizes, case), form in itertools.product(sheets, [YES, NO, ("and", ()), ("odd", (YES, YES)), ("not", YES)]):
            self.assertEqual(called(self, reasons, sizes, form, case), [[]])
            self.assertEqual(called(self, turns, sizes, form, case), [])
            self.assertEqual(called(self, needed, sizes, form, case), [])
            self.assertEqual(called(self, idle, sizes, form, case), list(range(len(sizes))))
            self.assertIs(called(self, forces, sizes, form, case, []), True)
            self.assertIs(called(self, can_turn, sizes, form, case, list(range(len(sizes)))), False)
            self.assertIs(called(self, turned_case, sizes, form, case, list(range(len(sizes)))), None)

    def test_all_fields_and_no_fields(self):
        for sizes, form, case, _ in samples():
            whole = list(range(len(sizes)))
            self.assertIs(forces(sizes, form, case, whole), True)
            self.assertIs(can_turn(sizes, form, case, []), False)
            both = len({told(sizes, form, other) for other in all_cases(sizes)}) == 2
            self.assertIs(forces(sizes, form, case, []), not both)
            self.assertIs(can_turn(sizes, form, case, whole), both)

    def test_forms_over_ten_fields(self):
        single, whole = [[field] for field in range(10)], [list(range(10))]
        for case in ([0] * 10, [1] * 10, [0, 1, 1, 0, 1, 0, 0, 0, 1, 1]):
            self.assertEqual(reasons(TEN, ("odd", ONES), case), whole)
            self.assertEqual(turns(TEN, ("odd", ONES), case), single)
        self.assertEqual(reasons(TEN, ("and", ONES), [1] * 10), whole)
        self.assertEqual(turns(TEN, ("and", ONES), [1] * 10), single)
        self.assertEqual(reasons(TEN, ("and", ONES), [0] * 10), single)
        self.assertEqual(turns(TEN, ("and", ONES), [0] * 10), whole)
        self.assertEqual(reasons(TEN, ("or", ONES), [1] * 10), single)
        self.assertEqual(turns(TEN, ("or", ONES), [0, 1] + [0] * 8), [[1]])
        self.assertEqual(needed(TEN, ("or", ONES), [0, 1] + [0] * 8), [1])
        self.assertEqual(idle(TEN, ("or", ONES), [0, 1] + [0] * 8), [0, 2, 3, 4, 5, 6, 7, 8, 9])
        of_length = [[list(part) for part in itertools.combinations(range(10), length)] for length in range(11)]
        self.assertEqual(reasons(TEN, HALF_OF_TEN, [1] * 10), of_length[5])
        self.assertEqual(turns(TEN, HALF_OF_TEN, [1] * 10), of_length[6])
        self.assertEqual(reasons(TEN, HALF_OF_TEN, [0] * 10), of_length[6])
        self.assertEqual(turns(TEN, HALF_OF_TEN, [0] * 10), of_length[5])

    def test_needed_and_idle_fields(self):
        for sizes, form, case, forcing in [*samples(), *great_samples()]:
            family = least(forcing)
            whole = range(len(sizes))
            self.assertEqual(called(self, needed, sizes, form, case),
                             [field for field in whole if all(field in fields for fields in family)])
            self.assertEqual(called(self, idle, sizes, form, case),
                             [field for field in whole if not any(field in fields for fields in family)])
            # F2: a field is needed exactly if it alone can turn, and not idle exactly if it is in some turn.
            self.assertEqual(needed(sizes, form, case), [at for at in whole if can_turn(sizes, form, case, [at])])
            in_turns = {field for fields in turns(sizes, form, case) for field in fields}
            self.assertEqual(idle(sizes, form, case), [field for field in whole if field not in in_turns])

    def test_fields_that_make_no_difference(self):
        form = ("or", (("is", 1, (0, 2)), ("is", 2, (0, 1)), ("is", 0, ())))
        self.assertEqual(reasons(SIZES, form, [0, 1, 1]), [[]])
        self.assertEqual(reasons(SIZES, ("is", 1, (0, 2)), [0, 2, 1]), [[1]])
        self.assertEqual(idle(SIZES, ("is", 1, (0, 2)), [0, 2, 1]), [0, 2])


class LeftOutTest(unittest.TestCase):
    def test_every_order(self):
        for sizes, form, case, forcing in samples():
            found = []
            for order in itertools.permutations(range(len(sizes))):
                remaining = called(self, reason_by, sizes, form, case, list(order))
                self.assertEqual(remaining, left_out(sizes, order, forcing))
                found.append(remaining)
            # F3: each reason remains for some order, and nothing else does.
            self.assertEqual(least(found), reasons(sizes, form, case))
            self.assertEqual({tuple(fields) for fields in found}, {tuple(fields) for fields in least(forcing)})

    def test_many_fields(self):
        source = random.Random(14)
        for sizes, form, case, forcing in great_samples():
            order = list(range(len(sizes)))
            family = reasons(sizes, form, case)
            for _ in range(6):
                source.shuffle(order)
                self.assertEqual(called(self, reason_by, sizes, form, case, order), left_out(sizes, order, forcing))
                self.assertIn(reason_by(sizes, form, case, order), family)

    def test_the_fields_at_the_end_remain(self):
        self.assertEqual(reason_by(TEN, HALF_OF_TEN, [1] * 10, list(range(10))), [5, 6, 7, 8, 9])
        self.assertEqual(reason_by(TEN, HALF_OF_TEN, [1] * 10, list(range(10))[::-1]), [0, 1, 2, 3, 4])
        self.assertEqual(reason_by([], YES, [], []), [])
        self.assertEqual(reason_by(EXAMPLE_SIZES, EXAMPLE, EXAMPLE_CASE, [1, 0, 2]), [0, 2])
        self.assertEqual(reason_by(EXAMPLE_SIZES, EXAMPLE, EXAMPLE_CASE, [2, 1, 0]), [0, 1])

    def test_wrong_orders(self):
        for order in (None, 0, "012", (0, 1, 2), [], [0, 1], [0, 1, 2, 2], [0, 1, 2, 3], [0, 1, 1], [0, 0, 0], [1, 2, 3],
                      [-1, 0, 1], [0, True, 2], [False, 1, 2], [0, 1, None], [0, 1, "2"], [0, 1, [2]], [[0, 1, 2]]):
            refused(self, InvalidFields, reason_by, SIZES, YES, [0, 0, 0], order)
        for order in (None, (), [0], [None], [[]]):
            refused(self, InvalidFields, reason_by, [], YES, [], order)


class TurnedCasesTest(unittest.TestCase):
    def test_the_least_case(self):
        for sizes, form, case, _ in samples():
            result = told(sizes, form, case)
            for fields in sets_below(len(sizes)):
                kept = [field for field in range(len(sizes)) if field not in fields]
                others = [other for other in all_cases(sizes) if agrees(case, other, kept)]
                expected = next((other for other in others if told(sizes, form, other) != result), None)
                self.assertEqual(called(self, turned_case, sizes, form, case, fields), expected)

    def test_some_cases(self):
        self.assertEqual(turned_case(EXAMPLE_SIZES, EXAMPLE, EXAMPLE_CASE, [0]), [0, 1, 1])
        self.assertEqual(turned_case(EXAMPLE_SIZES, EXAMPLE, EXAMPLE_CASE, [0, 1, 2]), [0, 0, 0])
        self.assertEqual(turned_case(EXAMPLE_SIZES, EXAMPLE, EXAMPLE_CASE, [1, 2]), [1, 0, 0])
        self.assertIs(turned_case(EXAMPLE_SIZES, EXAMPLE, EXAMPLE_CASE, [1]), None)
        self.assertEqual(turned_case(TEN, ("and", ONES), [0] * 10, list(range(10))), [1] * 10)

    def test_wrong_fields(self):
        for fields in (None, 0, "0", (), (0,), [1, 0], [0, 0], [0, 1, 1], [3], [-1], [0, 3], [True], [False, 1], [None],
                       ["0"], [[0]], [0, 1, 2, 3], [10 ** 31 - 1], [0] * 100_000):
            for function in (forces, can_turn, turned_case, reason_cases):
                refused(self, InvalidFields, function, SIZES, YES, [0, 0, 0], fields)
            refused(self, InvalidFields, shows_reason, SIZES, YES, [0, 0, 0], fields, [])
        for function in (forces, can_turn, turned_case, reason_cases):
            refused(self, InvalidFields, function, [], YES, [], [0])


class ShowingReasonsTest(unittest.TestCase):
    def see_cases(self, sizes, form, case, fields, found):
        """See that there is a right case for each of the fields, and that no part of it can be otherwise."""
        self.assertIsInstance(found, list)
        self.assertEqual(len(found), len(fields))
        for field, other in zip(fields, found):
            self.assertIn(other, all_cases(sizes))
            self.assertIsInstance(other, list)
            self.assertIsNot(told(sizes, form, other), told(sizes, form, case))
            self.assertTrue(agrees(case, other, [kept for kept in fields if kept != field]))
        self.assertIs(called(self, shows_reason, sizes, form, case, fields, found), True)

    def test_reasons(self):
        for sizes, form, case, _ in [*samples(), *great_samples()]:
            for fields in reasons(sizes, form, case)[:20]:
                self.see_cases(sizes, form, case, fields, called(self, reason_cases, sizes, form, case, fields))

    def test_sets_that_are_no_reasons(self):
        for sizes, form, case, forcing in samples():
            family = least(forcing)
            for fields in sets_below(len(sizes)):
                if fields not in family:
                    refused(self, NoReason, reason_cases, sizes, form, case, fields)
                    self.assertIs(shows_reason(sizes, form, case, fields, [case] * len(fields)), False)

    def test_no_list_shows_what_is_no_reason(self):
        for sizes, form, case in (([2, 2], ("and", (("is", 0, (1,)), ("is", 1, (1,)))), [0, 0]), ([3], NO, [1]),
                                  ([2, 2], ("is", 0, (1,)), [0, 1]), ([2, 2], YES, [0, 1])):
            family = reasons(sizes, form, case)
            for fields in sets_below(len(sizes)):
                shown = []
                for cases in itertools.product(all_cases(sizes), repeat=len(fields)):
                    shown.append(called(self, shows_reason, sizes, form, case, fields, list(cases)))
                self.assertIs(any(shown), fields in family)

    def test_every_list_of_cases(self):
        sizes, form, case = EXAMPLE_SIZES, EXAMPLE, EXAMPLE_CASE
        for fields in sets_below(3):
            forced = fields in forcing_sets(sizes, form, case)
            for cases in itertools.product(all_cases(sizes), repeat=min(len(fields), 2)):
                expected = forced and len(cases) == len(fields)
                for field, other in zip(fields, cases):
                    kept = [same for same in fields if same != field]
                    expected = expected and not told(sizes, form, other) and agrees(case, other, kept)
                self.assertIs(shows_reason(sizes, form, case, fields, list(cases)), expected)

    def test_values_of_any_kind(self):
        passed = (EXAMPLE_SIZES, EXAMPLE, EXAMPLE_CASE, [0, 1])
        right = [[0, 1, 0], [1, 0, 0]]
        self.assertIs(shows_reason(*passed, right), True)
        self.assertIs(shows_reason(*passed, [[0, 1, 1], [1, 0, 0]]), True)
        for wrong in (right[:1], right[1:], [*right, [1, 0, 0]], [*right, None], right[::-1], tuple(right), [right], [],
                      [tuple(right[0]), right[1]], [right[0], tuple(right[1])], [right[0], None], [None, right[1]],
                      [right[0], EXAMPLE_CASE], [EXAMPLE_CASE, right[1]], [right[0], [1, 0]], [right[0], [1, 0, 0, 0]],
                      [[False, 1, 0], right[1]], [[0, True, 0], right[1]], [[0, 1, None], right[1]], [[0, 1, 3], right[1]],
                      [[0, 1, "0"], right[1]], [[-2, 1, 0], right[1]], [[0, 0, 0], right[1]], [right[0], [0, 0, 0]],
                      [right[0], [[1], 0, 0]], [right[0], "100"], "", "01", {0: right[0], 1: right[1]}, None, True, 2):
            self.assertIs(called(self, shows_reason, *passed, wrong), False, wrong)
        for value in ANY_VALUES:
            self.assertIs(shows_reason(*passed, value), False)
            self.assertIs(shows_reason(*passed[:3], fields=[0, 2], value=value), False)
            empty = isinstance(value, list) and value == []
            self.assertIs(shows_reason([2], YES, [0], [], value), empty)

    def test_the_value_is_looked_at_last(self):
        refused(self, InvalidFields, shows_reason, [2], YES, [0], [1], None)
        refused(self, NotSmall, shows_reason, [2] * 11, YES, [0] * 11, [], None)


class ShowingTurnsTest(unittest.TestCase):
    def test_every_case(self):
        for sizes, form, case, _ in samples():
            family = turns(sizes, form, case)
            for other in all_cases(sizes):
                fields = [field for field in range(len(sizes)) if other[field] != case[field]]
                expected = told(sizes, form, other) != told(sizes, form, case) and fields in family
                self.assertIs(called(self, shows_turn, sizes, form, case, other), expected)

    def test_values_of_any_kind(self):
        passed = (EXAMPLE_SIZES, EXAMPLE, EXAMPLE_CASE)
        self.assertIs(shows_turn(*passed, [0, 1, 1]), True)
        self.assertIs(shows_turn(*passed, [1, 0, 0]), True)
        for wrong in ((0, 1, 1), [0, 1], [0, 1, 1, 1], [False, 1, 1], [0, True, 1], [0, None, 1], [0, 1, "1"], [0, 1, 3],
                      [-2, 1, 1], [[0, 1, 1]], [0, 0, 1], [0, 1, 0], [1, 1, 1], [1, 1, 0], [0, 1, [1]], "011", {0: 0}):
            self.assertIs(called(self, shows_turn, *passed, wrong), False, wrong)
        for value in ANY_VALUES:
            self.assertIs(shows_turn(*passed, value), False)
            self.assertIs(shows_turn([], YES, [], value), False)
            self.assertIs(shows_turn([2], YES, [1], value), False)

    def test_a_value_that_differs_in_a_turn_but_has_the_same_answer(self):
        form = ("is", 1, (0, 2))
        self.assertEqual(turns([2, 3], form, [0, 0]), [[1]])
        self.assertIs(shows_turn([2, 3], form, [0, 0], [0, 2]), False)
        self.assertIs(shows_turn([2, 3], form, [0, 0], [0, 1]), True)
        self.assertIs(shows_turn([2, 3], form, [0, 0], [1, 1]), False)


class DistanceTest(unittest.TestCase):
    def test_compared_with_the_definition(self):
        for sizes, form, case, _ in [*samples(), *great_samples()]:
            expected = min([len(change) for change in changes(sizes, form, case)], default=None)
            self.assertEqual(called(self, distance, sizes, form, case), expected)
            self.assertEqual(expected is None, turns(sizes, form, case) == [])

    def test_some_cases(self):
        self.assertIs(distance([], YES, []), None)
        self.assertIs(distance([2, 3], ("or", ()), [1, 2]), None)
        self.assertEqual(distance(TEN, ("odd", ONES), [0] * 10), 1)
        self.assertEqual(distance(TEN, ("and", ONES), [0] * 10), 10)
        self.assertEqual(distance(TEN, HALF_OF_TEN, [1] * 10), 6)
        self.assertEqual(distance(TEN, HALF_OF_TEN, [0, 1] * 5), 1)


class CostsTest(unittest.TestCase):
    def see_cheapest(self, function, family, sizes, form, case, costs):
        """See that the first set of a family with the least sum of costs is returned."""
        sums = [sum(costs[field] for field in fields) for fields in family]
        found = called(self, function, sizes, form, case, costs)
        self.assertIsInstance(found, tuple)
        self.assertEqual(found, (min(sums), family[sums.index(min(sums))]))

    def test_compared_with_the_families(self):
        source = random.Random(15)
        for sizes, form, case, forcing in [*samples(), *great_samples()]:
            number = len(sizes)
            turning = least([sorted(change) for change in changes(sizes, form, case)])
            for costs in ([0] * number, [1] * number, [10 ** 9] * number, list(range(number))[::-1],
                          [source.randrange(3) for _ in sizes], [source.choice([0, 5, 10 ** 9]) for _ in sizes]):
                self.see_cheapest(cheapest_reason, least(forcing), sizes, form, case, costs)
                if turning:
                    self.see_cheapest(cheapest_turn, turning, sizes, form, case, costs)
                else:
                    refused(self, NoTurn, cheapest_turn, sizes, form, case, costs)

    def test_the_first_one_of_several(self):
        passed = (EXAMPLE_SIZES, EXAMPLE, EXAMPLE_CASE)
        self.assertEqual(cheapest_reason(*passed, [1, 2, 2]), (3, [0, 1]))
        self.assertEqual(cheapest_reason(*passed, [1, 3, 2]), (3, [0, 2]))
        self.assertEqual(cheapest_turn(*passed, [2, 1, 1]), (2, [0]))
        self.assertEqual(cheapest_turn(*passed, [3, 1, 1]), (2, [1, 2]))
        self.assertEqual(cheapest_turn(*passed, [0, 0, 0]), (0, [0]))
        self.assertEqual(cheapest_reason(*passed, [10 ** 9] * 3), (2 * 10 ** 9, [0, 1]))
        self.assertEqual(cheapest_reason([], NO, [], []), (0, []))
        self.assertEqual(cheapest_reason(TEN, HALF_OF_TEN, [1] * 10, [10 ** 9] * 10), (5 * 10 ** 9, [0, 1, 2, 3, 4]))
        self.assertEqual(cheapest_turn(TEN, HALF_OF_TEN, [1] * 10, [1, 0] * 5), (1, [0, 1, 3, 5, 7, 9]))

    def test_wrong_costs(self):
        for costs in (None, 0, "000", (0, 0, 0), [], [0, 0], [0, 0, 0, 0], [0, 0, -1], [-1, 0, 0], [0, 10 ** 9 + 1, 0],
                      [0, 0, True], [False, 0, 0], [0, None, 0], [0, "0", 0], [0, [0], 0], [[0, 0, 0]], [0] * 100_000):
            for function in (cheapest_reason, cheapest_turn):
                refused(self, InvalidCosts, function, SIZES, YES, [0, 0, 0], costs)
                refused(self, InvalidCosts, function, SIZES, RULES, [0, 0, 0], costs)
        for costs in (None, (), [0], [[]]):
            refused(self, InvalidCosts, cheapest_turn, [], YES, [], costs)
        for function in (cheapest_reason, cheapest_turn):
            refused(self, InvalidCosts, function, [2] * 11, YES, [0] * 11, [0])
            refused(self, NotSmall, function, [2] * 11, YES, [0] * 11, [0] * 11)


class ResultsTest(unittest.TestCase):
    def test_changed_results_change_no_later_ones(self):
        sizes, case = [2, 3, 2], [1, 0, 1]
        for form in (CARD, TABLE, RULES):
            fields = reasons(sizes, form, case)[0]
            calls = [(function, []) for function in (reasons, turns, needed, idle)]
            calls += [(reason_by, [[2, 0, 1]]), (turned_case, [[0, 1, 2]]), (reason_cases, [fields])]
            calls += [(cheapest_reason, [[1, 2, 1]]), (cheapest_turn, [[1, 2, 1]])]
            for function, more in calls:
                first = function(sizes, form, case, *more)
                expected = copy.deepcopy(first)
                for part in first:
                    if isinstance(part, list):
                        part.append(9)
                if isinstance(first, list):
                    first.append([9])
                self.assertEqual(function(sizes, form, case, *more), expected)
                self.assertEqual((sizes, case), ([2, 3, 2], [1, 0, 1]))

    def test_returned_lists_are_different_objects(self):
        found = reason_cases([2, 2], ("and", (("is", 0, (1,)), ("is", 1, (1,)))), [1, 1], [0, 1])
        self.assertEqual(len({id(case) for case in found}), 2)
        case = [0]
        self.assertEqual(turned_case([2], ("is", 0, (1,)), case, [0]), [1])
        fields = [0]
        self.assertIsNot(reason_by([2], ("is", 0, (1,)), [0], fields), fields)
        found = reasons(TEN, HALF_OF_TEN, [1] * 10)
        self.assertEqual(len({id(part) for part in found}), 252)


if __name__ == "__main__":
    unittest.main()
