"""Promises 6 and 16: cards, compared with going through all cases, and on sheets of up to 24 fields."""

import functools
import itertools
import math
import random
import unittest

from leastreasons import reasons
from leastreasons.cards import (card_fields, card_forces, card_sum, count_card_reasons, count_card_turns,
                                count_card_yes, drops, lowered, nth_card_yes, shortest_card_reason,
                                shortest_card_turn, slack, sum_range)
from leastreasons.errors import InvalidCase, InvalidFields, InvalidForm, InvalidIndex, InvalidSizes, NoCard, NoTurn
from leastreasons.forms import answers, is_form
from leastreasons.sheets import count_cases
from tests.brute import changes, forcing_sets, least, sets_below, some_card, some_case, yes_cases
from tests.reference import NO, YES, all_cases, called, refused, told
from tests.samples import CARD, OTHER_FORMS, PLAIN_TREES, SIZES, wrong_forms

EXAMPLE_SIZES = [2, 2, 3]
EXAMPLE = ("card", ((0, 2), (0, 1), (0, 1, 2)), 3)
EXAMPLE_CASE = [1, 1, 1]
ALWAYS = ("card", ((-50, 50), (3, 0, -3), (1, 1)), -52)
NEVER = ("card", ((-50, 50), (3, 0, -3), (1, 1)), 55)


def switches(*numbers, bound):
    """A card on fields of two values, of which only the second one has a weight."""
    return ("card", tuple((0, number) for number in numbers), bound)


@functools.cache
def samples():
    """Tuples of sizes, a card and a case, always the same ones."""
    source = random.Random(24)
    found = [(EXAMPLE_SIZES, EXAMPLE, case) for case in all_cases(EXAMPLE_SIZES)]
    found += [(SIZES, card, some_case(source, SIZES)) for card in (CARD, ALWAYS, NEVER)]
    for sizes in ([], [2], [6], [2, 2], [3, 2], [2, 3, 4], [5, 2, 3], [2, 2, 2, 2], [3, 2, 2, 2, 2]):
        for greatest in (1, 2, 2, 3, 6, 6, 50):
            card = some_card(source, sizes, greatest)
            found += [(sizes, card, some_case(source, sizes)) for _ in range(2)]
    found += [([2] * 10, some_card(source, [2] * 10, 3), some_case(source, [2] * 10)) for _ in range(4)]
    return found


@functools.cache
def great_samples():
    """Such tuples with 13 to 24 fields of up to 6 values."""
    source = random.Random(25)
    found = []
    for number, greatest in ((13, 50), (18, 2), (24, 50), (24, 5), (24, 1), (21, 50)):
        sizes = [source.randrange(2, 7) for _ in range(number)]
        card = some_card(source, sizes, greatest)
        found += [(sizes, card, some_case(source, sizes)) for _ in range(2)]
    return found


def turned_most(card, case, fields):
    """The case in which all other fields have their value that moves the sum most towards the other answer."""
    choose = min if told(None, card, case) else max
    return [value if at in fields else row.index(choose(row)) for at, (row, value) in enumerate(zip(card[1], case))]


def forced(card, case, fields):
    """Whether fields force, told by one case for which the answer turns if it turns for any."""
    return told(None, card, turned_most(card, case, fields)) == told(None, card, case)


def counter(card):
    """A function that tells how many choices from a field on add up to at least a number."""
    @functools.cache
    def count(at, missing):
        if at == len(card[1]):
            return int(missing <= 0)
        return sum(count(at + 1, missing - weight) for weight in card[1][at])
    return count


def place_among_yes(card, case):
    """How many cases that say yes are less than a case."""
    count = counter(card)
    place = 0
    reached = 0
    for at, value in enumerate(case):
        place += sum(count(at + 1, card[2] - reached - weight) for weight in card[1][at][:value])
        reached += card[1][at][value]
    return place


class SumsTest(unittest.TestCase):
    def test_the_example_of_the_document(self):
        passed = (EXAMPLE_SIZES, EXAMPLE, EXAMPLE_CASE)
        self.assertEqual(called(self, card_sum, *passed), 4)
        self.assertEqual(called(self, slack, *passed), 1)
        self.assertEqual(called(self, drops, *passed), [2, 1, 1])
        self.assertEqual(called(self, sum_range, EXAMPLE_SIZES, EXAMPLE), (0, 5))
        self.assertEqual(called(self, slack, EXAMPLE_SIZES, EXAMPLE, [0, 0, 1]), 1)
        self.assertEqual(called(self, drops, EXAMPLE_SIZES, EXAMPLE, [0, 0, 1]), [2, 1, 1])
        self.assertEqual(called(self, drops, EXAMPLE_SIZES, EXAMPLE, [0, 1, 0]), [2, 0, 2])
        self.assertEqual(called(self, slack, EXAMPLE_SIZES, EXAMPLE, [0, 1, 2]), 0)
        self.assertEqual(called(self, slack, EXAMPLE_SIZES, EXAMPLE, [1, 0, 0]), 0)

    def test_weights_below_zero(self):
        card = ("card", ((-5, 3), (-2, -7, -2), (0, 0)), -4)
        self.assertEqual(called(self, card_sum, SIZES, card, [0, 1, 0]), -12)
        self.assertEqual(called(self, slack, SIZES, card, [0, 1, 0]), 7)
        self.assertEqual(called(self, drops, SIZES, card, [0, 1, 0]), [8, 5, 0])
        self.assertEqual(called(self, slack, SIZES, card, [1, 1, 1]), 0)
        self.assertEqual(called(self, drops, SIZES, card, [1, 1, 1]), [8, 0, 0])
        self.assertEqual(called(self, slack, SIZES, card, [1, 2, 1]), 5)
        self.assertEqual(called(self, sum_range, SIZES, card), (-12, 1))

    def test_compared_with_the_definitions(self):
        for sizes, card, case in [*samples(), *great_samples()]:
            reached = sum(row[value] for row, value in zip(card[1], case))
            yes = reached >= card[2]
            self.assertEqual(called(self, card_sum, sizes, card, case), reached)
            self.assertEqual(called(self, slack, sizes, card, case), reached - card[2] if yes else card[2] - 1 - reached)
            expected = [row[at] - min(row) if yes else max(row) - row[at] for row, at in zip(card[1], case)]
            found = called(self, drops, sizes, card, case)
            self.assertIsInstance(found, list)
            self.assertEqual(found, expected)
            span = called(self, sum_range, sizes, card)
            self.assertIsInstance(span, tuple)
            self.assertEqual(span, (sum(map(min, card[1])), sum(map(max, card[1]))))

    def test_sums_of_all_cases(self):
        for sizes, card, _ in samples():
            sums = [card_sum(sizes, card, case) for case in all_cases(sizes)]
            self.assertEqual(sum_range(sizes, card), (min(sums), max(sums)))

    def test_the_sheet_without_fields(self):
        for bound, yes in ((0, True), (-7, True), (1, False), (2000, False)):
            card = ("card", (), bound)
            self.assertEqual(called(self, card_sum, [], card, []), 0)
            self.assertEqual(called(self, drops, [], card, []), [])
            self.assertEqual(called(self, slack, [], card, []), -bound if yes else bound - 1)
            self.assertEqual(called(self, sum_range, [], card), (0, 0))
            self.assertEqual(called(self, count_card_yes, [], card), int(yes))
            self.assertEqual(called(self, card_fields, [], card), [])
            self.assertEqual(called(self, lowered, [], card), card)
            self.assertEqual(called(self, shortest_card_reason, [], card, []), [])
            self.assertEqual(called(self, count_card_reasons, [], card, []), 1)
            self.assertEqual(called(self, count_card_turns, [], card, []), 0)
            refused(self, NoTurn, shortest_card_turn, [], card, [])


class ForcingTest(unittest.TestCase):
    def test_small_sheets(self):
        for sizes, card, case in samples():
            forcing = forcing_sets(sizes, card, case)
            for fields in sets_below(len(sizes)) if len(sizes) < 9 else sets_below(len(sizes))[::17]:
                self.assertIs(called(self, card_forces, sizes, card, case, fields), fields in forcing)

    def test_many_fields(self):
        source = random.Random(26)
        for sizes, card, case in great_samples():
            for chance in (0, 0.2, 0.5, 0.7, 0.8, 0.9, 0.95, 1):
                for _ in range(4):
                    fields = [field for field in range(len(sizes)) if source.random() < chance]
                    found = called(self, card_forces, sizes, card, case, fields)
                    self.assertIs(found, forced(card, case, fields))

    def test_wrong_fields(self):
        for fields in (None, 0, (0,), [1, 0], [0, 0], [3], [-1], [True], [None], ["0"], [[0]], [0, 1, 2, 3]):
            refused(self, InvalidFields, card_forces, SIZES, CARD, [0, 0, 0], fields)


class ReasonsTest(unittest.TestCase):
    def test_the_example_of_the_document(self):
        passed = (EXAMPLE_SIZES, EXAMPLE, EXAMPLE_CASE)
        self.assertEqual(called(self, shortest_card_reason, *passed), [0, 1])
        self.assertEqual(called(self, shortest_card_turn, *passed), [0])
        self.assertEqual(called(self, count_card_reasons, *passed), 2)
        self.assertEqual(called(self, count_card_turns, *passed), 2)

    def test_small_sheets(self):
        for sizes, card, case in samples():
            family = least(forcing_sets(sizes, card, case))
            turning = least([sorted(change) for change in changes(sizes, card, case)])
            self.assertEqual(called(self, shortest_card_reason, sizes, card, case), family[0])
            self.assertEqual(called(self, count_card_reasons, sizes, card, case), len(family))
            self.assertEqual(called(self, count_card_turns, sizes, card, case), len(turning))
            if turning:
                self.assertEqual(called(self, shortest_card_turn, sizes, card, case), turning[0])
            else:
                refused(self, NoTurn, shortest_card_turn, sizes, card, case)

    def test_the_same_as_of_any_form(self):
        for sizes, card, case in samples():
            self.assertEqual(count_card_reasons(sizes, card, case), len(reasons.reasons(sizes, card, case)))
            self.assertEqual(count_card_turns(sizes, card, case), len(reasons.turns(sizes, card, case)))

    def test_thirteen_fields(self):
        for sizes, card, case in great_samples()[:2]:
            forcing = [set(fields) for fields in sets_below(13) if forced(card, case, fields)]
            family = [part for part in forcing if not any(part - {at} in forcing for at in part)]
            self.assertEqual(called(self, shortest_card_reason, sizes, card, case), sorted(family[0]))
            self.assertEqual(called(self, count_card_reasons, sizes, card, case), len(family))

    def test_many_fields(self):
        for sizes, card, case in great_samples():
            found = called(self, shortest_card_reason, sizes, card, case)
            self.assertIs(forced(card, case, found), True)
            for fields in [found[:at] + found[at + 1:] for at in range(len(found))]:
                self.assertIs(forced(card, case, fields), False)
            if count_card_turns(sizes, card, case) == 0:
                refused(self, NoTurn, shortest_card_turn, sizes, card, case)
                continue
            turn = called(self, shortest_card_turn, sizes, card, case)
            whole = range(len(sizes))
            self.assertIs(forced(card, case, [field for field in whole if field not in turn]), False)
            for left in turn:
                fewer = [field for field in turn if field != left]
                self.assertIs(forced(card, case, [field for field in whole if field not in fewer]), True)

    def test_the_first_one_among_the_shortest(self):
        for numbers, bound, reason, turn in (
                ((1, 2, 3, 3, 2), 6, [2, 3], [2, 3]), ((1, 1, 1, 1), 2, [0, 1], [0, 1, 2]),
                ((1, 5, 1, 5, 1, 5), 10, [1, 3], [1, 3]), ((5, 1, 5), 6, [0, 1], [0, 1]),
                ((2, 1, 4, 1), 4, [2], [0, 2]), ((1, 2, 4, 8), 8, [3], [3]), ((1, 2, 4, 8), 9, [0, 3], [3]),
                ((3, 3, 3, 3, 4, 4), 11, [0, 4, 5], [0, 1, 4]), ((1, 3, 2, 3), 6, [1, 3], [0, 1])):
            # Every field has its weight, so the drops are the numbers and a set forces if they reach the bound.
            sizes, case, card = [2] * len(numbers), [1] * len(numbers), switches(*numbers, bound=bound)
            family = least(forcing_sets(sizes, card, case))
            turning = least([sorted(change) for change in changes(sizes, card, case)])
            self.assertEqual([called(self, shortest_card_reason, sizes, card, case), family[0]], [reason, reason])
            self.assertEqual([called(self, shortest_card_turn, sizes, card, case), turning[0]], [turn, turn])

    def test_equal_drops_in_24_fields(self):
        for bound in (1, 5, 12, 20, 24):
            card = switches(*[1] * 24, bound=bound)
            passed = ([2] * 24, card, [1] * 24)
            self.assertEqual(called(self, count_card_reasons, *passed), math.comb(24, bound))
            self.assertEqual(called(self, count_card_turns, *passed), math.comb(24, 25 - bound))
            self.assertEqual(called(self, shortest_card_reason, *passed), list(range(bound)))
            self.assertEqual(called(self, shortest_card_turn, *passed), list(range(25 - bound)))

    def test_two_kinds_of_drops_in_24_fields(self):
        numbers = [1, 2] * 12
        for goal in (1, 2, 7, 8, 20, 35, 36):
            card = switches(*numbers, bound=goal)
            expected = 0
            for ones, twos in itertools.product(range(13), repeat=2):
                least_number = 1 if ones else 2
                reached = ones + 2 * twos
                if reached >= goal > reached - least_number:
                    expected += math.comb(12, ones) * math.comb(12, twos)
            self.assertEqual(called(self, count_card_reasons, [2] * 24, card, [1] * 24), expected)
            self.assertEqual(called(self, count_card_turns, [2] * 24, card, [0] * 24), expected)
        self.assertEqual(shortest_card_reason([2] * 24, switches(*numbers, bound=5), [1] * 24), [0, 1, 3])
        self.assertEqual(shortest_card_reason([2] * 24, switches(*numbers, bound=24), [1] * 24), list(range(1, 24, 2)))
        self.assertEqual(shortest_card_turn([2] * 24, switches(*numbers, bound=6), [0] * 24), [1, 3, 5])

    def test_bounds_that_no_case_or_every_case_reaches(self):
        for sizes, card in ((SIZES, ALWAYS), (SIZES, NEVER), ([6] * 24, ("card", ((-50, 0, 50, 1, 2, 3),) * 24, -1200)),
                            ([6] * 24, ("card", ((-50, 0, 50, 1, 2, 3),) * 24, 1201))):
            for case in ([0] * len(sizes), [1] * len(sizes)):
                self.assertEqual(called(self, shortest_card_reason, sizes, card, case), [])
                self.assertEqual(called(self, count_card_reasons, sizes, card, case), 1)
                self.assertEqual(called(self, count_card_turns, sizes, card, case), 0)
                refused(self, NoTurn, shortest_card_turn, sizes, card, case)
                self.assertIs(called(self, card_forces, sizes, card, case, []), True)
            self.assertEqual(called(self, card_fields, sizes, card), [])

    def test_bounds_that_almost_no_case_and_almost_every_case_reaches(self):
        for bound, case in ((1200, [2] * 24), (-1199, [0] * 24)):
            card = ("card", ((-50, 0, 50, 1, 2, 3),) * 24, bound)
            whole = list(range(24))
            self.assertEqual(called(self, shortest_card_reason, [6] * 24, card, case), whole)
            self.assertEqual(called(self, count_card_reasons, [6] * 24, card, case), 1)
            self.assertEqual(called(self, shortest_card_turn, [6] * 24, card, case), [0])
            self.assertEqual(called(self, count_card_turns, [6] * 24, card, case), 24)
            self.assertEqual(called(self, card_fields, [6] * 24, card), whole)


class YesTest(unittest.TestCase):
    def test_small_sheets(self):
        for sizes, card, _ in samples():
            expected = yes_cases(sizes, card)
            self.assertEqual(called(self, count_card_yes, sizes, card), len(expected))
            step = 1 if len(expected) < 100 else 41
            for index in range(0, len(expected), step):
                self.assertEqual(called(self, nth_card_yes, sizes, card, index), expected[index])
            for index in (len(expected), len(expected) + 1, -1, 10 ** 31 - 1, True, False, None, "0", [0], (0,)):
                refused(self, InvalidIndex, nth_card_yes, sizes, card, index)

    def test_many_fields(self):
        source = random.Random(27)
        for sizes, card, _ in great_samples():
            count = called(self, count_card_yes, sizes, card)
            self.assertEqual(count, counter(card)(0, card[2]))
            for index in [0, count - 1, count // 2, source.randrange(count), source.randrange(count)] if count else []:
                case = called(self, nth_card_yes, sizes, card, index)
                self.assertIs(told(sizes, card, case), True)
                self.assertEqual(place_among_yes(card, case), index)
            refused(self, InvalidIndex, nth_card_yes, sizes, card, count)

    def test_24_fields(self):
        for bound in (0, 1, 7, 24, 25):
            card = switches(*[1] * 24, bound=bound)
            count = sum(math.comb(24, many) for many in range(bound, 25))
            self.assertEqual(called(self, count_card_yes, [2] * 24, card), count)
            if count:
                self.assertEqual(called(self, nth_card_yes, [2] * 24, card, 0), [0] * (24 - bound) + [1] * bound)
                self.assertEqual(called(self, nth_card_yes, [2] * 24, card, count - 1), [1] * 24)
        flat = ("card", ((7,) * 6,) * 24, 7 * 24)
        self.assertEqual(called(self, count_card_yes, [6] * 24, flat), 6 ** 24)
        self.assertEqual(called(self, nth_card_yes, [6] * 24, flat, 6 ** 24 - 1), [5] * 24)
        self.assertEqual(called(self, nth_card_yes, [6] * 24, flat, 6 ** 23), [1] + [0] * 23)
        self.assertEqual(called(self, count_card_yes, [6] * 24, (*flat[:2], 7 * 24 + 1)), 0)

    def test_one_card_and_its_opposite(self):
        for sizes, card, _ in great_samples():
            opposite = ("card", tuple(tuple(-weight for weight in row) for row in card[1]), 1 - card[2])
            both = count_card_yes(sizes, card) + count_card_yes(sizes, opposite)
            self.assertEqual(both, count_cases(sizes))


class FieldsTest(unittest.TestCase):
    def test_some_cards(self):
        self.assertEqual(called(self, card_fields, EXAMPLE_SIZES, EXAMPLE), [0, 1, 2])
        self.assertEqual(called(self, card_fields, [2, 2, 2], switches(2, 2, 1, bound=4)), [0, 1])
        self.assertEqual(called(self, card_fields, [2, 2, 2], switches(2, 2, 1, bound=5)), [0, 1, 2])
        self.assertEqual(called(self, card_fields, [2, 2, 2], switches(2, 2, 0, bound=2)), [0, 1])
        self.assertEqual(called(self, card_fields, [2, 2, 2], switches(4, 2, 2, bound=4)), [0, 1, 2])
        self.assertEqual(called(self, card_fields, [2, 2, 2], switches(9, 2, 2, bound=8)), [0])
        self.assertEqual(called(self, card_fields, [2, 2, 2], switches(6, 4, 1, bound=5)), [0, 1, 2])
        self.assertEqual(called(self, card_fields, [2, 2, 2], switches(6, 4, -1, bound=4)), [0, 1, 2])
        self.assertEqual(called(self, card_fields, [2, 2, 2], switches(6, 4, -1, bound=5)), [0])
        self.assertEqual(called(self, card_fields, [3, 2], ("card", ((5, 5, 5), (-1, 1)), 5)), [1])

    def test_compared_with_going_through_all_cases(self):
        for sizes, card, _ in samples():
            expected = []
            for field in range(len(sizes)):
                results = {}
                for case in all_cases(sizes):
                    others = tuple(case[:field] + case[field + 1:])
                    results.setdefault(others, set()).add(told(sizes, card, case))
                if any(len(both) == 2 for both in results.values()):
                    expected.append(field)
            self.assertEqual(called(self, card_fields, sizes, card), expected, card)

    def test_many_fields(self):
        for sizes, card, _ in [*great_samples(), ([2] * 24, switches(*[2] * 23, 1, bound=24), None),
                               ([2] * 24, switches(*[2] * 23, 1, bound=25), None)]:
            expected = []
            for field in range(len(sizes)):
                sums = {0}
                for row in card[1][:field] + card[1][field + 1:]:
                    sums = {reached + weight for reached in sums for weight in row}
                if any({reached + weight >= card[2] for weight in card[1][field]} == {True, False} for reached in sums):
                    expected.append(field)
            self.assertEqual(called(self, card_fields, sizes, card), expected)

    def test_other_sums_that_leap_over_the_bound(self):
        self.assertEqual(card_fields([2] * 24, switches(*[2] * 23, 1, bound=24)), list(range(23)))
        self.assertEqual(card_fields([2] * 24, switches(*[2] * 23, 1, bound=25)), list(range(24)))


class LoweredTest(unittest.TestCase):
    def test_some_cards(self):
        self.assertEqual(called(self, lowered, EXAMPLE_SIZES, EXAMPLE), EXAMPLE)
        card = ("card", ((-5, 3), (4, 2, 9), (7, 7)), -4)
        self.assertEqual(called(self, lowered, SIZES, card), ("card", ((0, 8), (2, 0, 7), (0, 0)), -8))
        self.assertEqual(called(self, lowered, SIZES, ("card", ((-50, -49), (0, 0, 0), (50, 48)), 2000)),
                         ("card", ((0, 1), (0, 0, 0), (2, 0)), 2002))

    def test_the_answers_stay(self):
        for sizes, card, _ in samples():
            found = called(self, lowered, sizes, card)
            self.assertIs(is_form(sizes, found), True)
            self.assertEqual(answers(sizes, found), answers(sizes, card))

    def test_each_field_is_changed_by_one_number(self):
        for sizes, card, case in [*samples(), *great_samples()]:
            found = called(self, lowered, sizes, card)
            changed = 0
            for row, lower in zip(card[1], found[1]):
                self.assertEqual(min(lower), 0)
                self.assertEqual(len({weight - other for weight, other in zip(row, lower)}), 1)
                changed += row[0] - lower[0]
            self.assertEqual(found[2], card[2] - changed)
            self.assertEqual(lowered(sizes, found), found)
            self.assertEqual(slack(sizes, found, case), slack(sizes, card, case))
            self.assertEqual(drops(sizes, found, case), drops(sizes, card, case))
            self.assertEqual(count_card_yes(sizes, found), count_card_yes(sizes, card))


FUNCTIONS = [
    (card_sum, [[0, 0, 0]]), (slack, [[0, 0, 0]]), (drops, [[0, 0, 0]]), (sum_range, []),
    (card_forces, [[0, 0, 0], [0]]), (shortest_card_reason, [[0, 0, 0]]), (shortest_card_turn, [[0, 0, 0]]),
    (count_card_reasons, [[0, 0, 0]]), (count_card_turns, [[0, 0, 0]]), (count_card_yes, []), (nth_card_yes, [0]),
    (card_fields, []), (lowered, []),
]


class WrongCardsTest(unittest.TestCase):
    def test_values_that_are_no_forms(self):
        for function, more in FUNCTIONS:
            for wrong in wrong_forms()[::7]:
                refused(self, InvalidForm, function, SIZES, wrong, *more)
                refused(self, InvalidForm, function, SIZES, ("not", wrong), *[None for _ in more])
            for wrong in (("card", CARD[1][:2], 0), ("card", CARD[1], None), ("card", [*CARD[1]], 0), ("card",), CARD[:2],
                          ("card", ((0, 2), (-1, True, 1), (5, -50)), 3), [*CARD]):
                refused(self, InvalidForm, function, SIZES, wrong, *more)

    def test_forms_that_are_no_cards(self):
        for function, more in FUNCTIONS:
            for form in [*PLAIN_TREES, *OTHER_FORMS, ("not", CARD), ("and", (CARD,)), ("tree", 0, (CARD, CARD))]:
                if form[0] != "card":
                    refused(self, NoCard, function, SIZES, form, *more)
                    refused(self, NoCard, function, SIZES, form, *[None for _ in more])
            refused(self, InvalidSizes, function, (2, 3, 2), YES, *more)
            refused(self, NoCard, function, [], NO, *more)

    def test_wrong_cases(self):
        for function, more in FUNCTIONS:
            for case in (None, (0, 0, 0), [0, 0], [2, 0, 0], [0, 0, None], [0, False, 0], "000"):
                if more and more[0] == [0, 0, 0]:
                    refused(self, InvalidCase, function, SIZES, CARD, case, *more[1:])
                    refused(self, InvalidCase, function, SIZES, CARD, case, *[None for _ in more[1:]])

    def test_cards_beyond_the_limits_of_use(self):
        card = ("card", ((51, -51), (10 ** 30, 0, -10 ** 30), (0, 0)), 10 ** 30)
        self.assertEqual(called(self, sum_range, SIZES, card), (-51 - 10 ** 30, 51 + 10 ** 30))
        self.assertEqual(called(self, count_card_yes, SIZES, card), 2)
        self.assertEqual(called(self, nth_card_yes, SIZES, card, 1), [0, 0, 1])
        self.assertEqual(called(self, card_fields, SIZES, card), [0, 1])
        self.assertEqual(called(self, shortest_card_turn, SIZES, card, [0, 0, 0]), [0])


class ResultsTest(unittest.TestCase):
    def test_changed_results_change_no_later_ones(self):
        case = [1, 1, 1]
        for function, more in ((drops, [case]), (shortest_card_reason, [case]), (shortest_card_turn, [case]),
                               (nth_card_yes, [3]), (card_fields, [])):
            first = function(EXAMPLE_SIZES, EXAMPLE, *more)
            expected = list(first)
            first.append(9)
            first[0] = 7
            self.assertEqual(function(EXAMPLE_SIZES, EXAMPLE, *more), expected)
            self.assertEqual((case, EXAMPLE_SIZES), ([1, 1, 1], [2, 2, 3]))


if __name__ == "__main__":
    unittest.main()
