"""Promises 6 and 15: plain trees, compared with going through all cases, and on sheets of up to 24 fields."""

import copy
import functools
import itertools
import math
import random
import unittest

from leastreasons import reasons
from leastreasons.errors import InvalidCase, InvalidFields, InvalidForm, InvalidIndex, InvalidSizes, NoTree
from leastreasons.forms import answer, answers, is_plain_tree, measure, ordered_tree
from leastreasons.sheets import count_cases
from leastreasons.trees import (count_tree_yes, grafted, nth_tree_yes, tree_forces, tree_reason, tree_turns, trimmed,
                                ways)
from tests.brute import changes, forcing_sets, least, left_out, listed, sets_below, some_case, some_tree, yes_cases
from tests.reference import NO, YES, all_cases, called, refused, some_form, told
from tests.samples import OTHER_FORMS, PLAIN_TREES, SIZES, wrong_forms

# A tree that tests field 0 twice on a way, has a way that contradicts itself, and has equal branches inside.
TWISTED = ("tree", 0, (("tree", 1, (YES, ("tree", 0, (NO, YES)), NO)), ("tree", 2, (NO, ("tree", 0, (YES, NO))))))
PLENTY = [2, 3, 4, 5, 6, 2] * 4


@functools.cache
def samples():
    """Pairs of sizes and a plain tree, always the same ones."""
    source = random.Random(15)
    found = [(SIZES, tree) for tree in [*PLAIN_TREES, TWISTED]]
    for sizes in ([], [2], [5], [2, 2], [3, 2], [2, 3, 4], [5, 2, 3], [2, 2, 2, 2], [2, 2, 3, 2, 2]):
        found += [(sizes, some_tree(source, sizes, levels)) for levels in (1, 2, 3, 3, 4, 4, 5, 6)]
    return found


@functools.cache
def great_samples():
    """Tuples of many sizes, the named fields, a tree on a sheet of these fields, and the same tree on all fields."""
    source = random.Random(16)
    found = []
    for _ in range(14):
        sizes = [source.randrange(2, 7) for _ in range(source.choice([12, 20, 24]))]
        fields = sorted(source.sample(range(len(sizes)), 4))
        tree = some_tree(source, [sizes[field] for field in fields], source.randrange(2, 5))
        found.append((sizes, fields, tree, moved(tree, fields)))
    return found


def moved(tree, fields):
    """The tree with other names of its fields."""
    if tree[0] == "say":
        return tree
    return ("tree", fields[tree[1]], tuple(moved(branch, fields) for branch in tree[2]))


def all_ways(tree, above=()):
    """All ways down, also those that contradict themselves, each as a tuple of its tests and its result."""
    if tree[0] == "say":
        return [(above, tree[1])]
    found = []
    for value, branch in enumerate(tree[2]):
        found += all_ways(branch, (*above, (tree[1], value)))
    return found


def expected_ways(tree):
    """The ways by their definition."""
    found = [(tuple(sorted(set(tests))), result) for tests, result in all_ways(tree)]
    return [(tests, result) for tests, result in found if len(dict(tests)) == len(tests)]


def replaced(tree, above):
    """The tree in which each test of a field that is tested above is replaced by the branch for its value."""
    if tree[0] == "say":
        return tree
    if tree[1] in above:
        return replaced(tree[2][above[tree[1]]], above)
    branches = [replaced(branch, {**above, tree[1]: value}) for value, branch in enumerate(tree[2])]
    return ("tree", tree[1], tuple(branches))


def collapsed(tree):
    """The tree in which each test with equal branches is replaced by its first branch, from the inside."""
    if tree[0] == "say":
        return tree
    branches = tuple(collapsed(branch) for branch in tree[2])
    return branches[0] if len(set(branches)) == 1 else ("tree", tree[1], branches)


def with_leaves(tree, upper, lower):
    """The tree with other trees in the place of its leaves."""
    if tree[0] == "say":
        return upper if tree[1] else lower
    return ("tree", tree[1], tuple(with_leaves(branch, upper, lower) for branch in tree[2]))


class WaysTest(unittest.TestCase):
    def test_some_trees(self):
        self.assertEqual(called(self, ways, SIZES, YES), [((), True)])
        self.assertEqual(called(self, ways, [], NO), [((), False)])
        self.assertEqual(called(self, ways, SIZES, ("tree", 1, (YES, NO, YES))),
                         [(((1, 0),), True), (((1, 1),), False), (((1, 2),), True)])
        self.assertEqual(called(self, ways, SIZES, ("tree", 2, (NO, ("tree", 0, (YES, NO))))),
                         [(((2, 0),), False), (((0, 0), (2, 1)), True), (((0, 1), (2, 1)), False)])
        self.assertEqual(called(self, ways, SIZES, TWISTED), [
            (((0, 0), (1, 0)), True), (((0, 0), (1, 1)), False), (((0, 0), (1, 2)), False),
            (((0, 1), (2, 0)), False), (((0, 1), (2, 1)), False)])

    def test_ways_that_contradict_themselves(self):
        tree = ("tree", 0, (("tree", 0, (YES, NO)), ("tree", 0, (("tree", 1, (YES, YES, NO)), NO))))
        self.assertEqual(called(self, ways, SIZES, tree), [(((0, 0),), True), (((0, 1),), False)])

    def test_compared_with_the_definition(self):
        for sizes, tree in [*samples(), *[(sizes, tree) for sizes, _, _, tree in great_samples()]]:
            found = called(self, ways, sizes, tree)
            self.assertEqual(repr(found), repr(expected_ways(tree)))

    def test_each_case_has_one_way(self):
        for sizes, tree in samples():
            found = ways(sizes, tree)
            for case in all_cases(sizes):
                fitting = [result for tests, result in found if all(case[field] == value for field, value in tests)]
                self.assertEqual(fitting, [told(sizes, tree, case)])


class TrimmedTest(unittest.TestCase):
    def test_some_trees(self):
        for tree, expected in (
                (YES, YES), (NO, NO), (("tree", 1, (YES, NO, YES)),) * 2, (("tree", 1, (NO, NO, NO)), NO),
                (("tree", 0, (("tree", 0, (YES, NO)), NO)), ("tree", 0, (YES, NO))),
                (("tree", 0, (("tree", 0, (NO, YES)), ("tree", 0, (YES, NO)))), NO),
                (("tree", 0, (("tree", 1, (YES, YES, YES)), ("tree", 2, (YES, YES)))), YES),
                (TWISTED, ("tree", 0, (("tree", 1, (YES, NO, NO)), NO))),
                (("tree", 2, (("tree", 1, (YES, NO, YES)), ("tree", 1, (YES, NO, ("tree", 2, (NO, YES)))))),
                 ("tree", 1, (YES, NO, YES))),
                (("tree", 0, (("tree", 1, (NO, YES, YES)), ("tree", 2, (("tree", 1, (NO, YES, YES)),) * 2))),
                 ("tree", 1, (NO, YES, YES)))):
            self.assertEqual(called(self, trimmed, SIZES, tree), expected)

    def test_trees_with_the_same_answers_may_stay_unlike(self):
        tree = ("tree", 2, (("tree", 0, (YES, NO)), ("tree", 1, (("tree", 0, (YES, NO)), YES, NO))))
        self.assertEqual(called(self, trimmed, SIZES, tree), tree)
        crossed = ("tree", 0, (("tree", 1, (YES, NO, NO)), ("tree", 1, (YES, NO, NO))))
        self.assertEqual(called(self, trimmed, SIZES, crossed), ("tree", 1, (YES, NO, NO)))

    def test_compared_with_the_two_steps(self):
        for sizes, tree in [*samples(), *[(sizes, tree) for sizes, _, _, tree in great_samples()]]:
            found = called(self, trimmed, sizes, tree)
            self.assertEqual(repr(found), repr(collapsed(replaced(tree, {}))))
            self.assertIs(is_plain_tree(sizes, found), True)
            self.assertEqual(trimmed(sizes, found), found)

    def test_the_answers_stay(self):
        for sizes, tree in samples():
            self.assertEqual(answers(sizes, trimmed(sizes, tree)), answers(sizes, tree))
            ordered = ordered_tree(sizes, tree)
            self.assertEqual(trimmed(sizes, ordered), ordered)

    def test_equal_branches_only_after_the_trimming_inside(self):
        inside = [("tree", 1, (YES, ("tree", 0, (YES, NO)), NO)), ("tree", 1, (YES, ("tree", 0, (NO, YES)), NO))]
        self.assertEqual(trimmed(SIZES, ("tree", 0, tuple(inside))), ("tree", 1, (YES, YES, NO)))
        deep = YES
        for field in [3, 2, 1, 0, 3, 1]:
            deep = ("tree", field, (deep, YES))
        self.assertEqual(trimmed([2] * 4, deep), YES)


class ForcingTest(unittest.TestCase):
    def test_small_sheets(self):
        source = random.Random(17)
        for sizes, tree in samples():
            for case in {tuple(some_case(source, sizes)) for _ in range(3)}:
                case = list(case)
                forcing = forcing_sets(sizes, tree, case)
                for fields in sets_below(len(sizes)):
                    self.assertIs(called(self, tree_forces, sizes, tree, case, fields), fields in forcing)
                turning = [sorted(change) for change in changes(sizes, tree, case)]
                self.assertEqual(called(self, tree_turns, sizes, tree, case), least(turning))
                self.assertEqual(tree_turns(sizes, tree, case), reasons.turns(sizes, tree, case))
                for order in list(itertools.permutations(range(len(sizes))))[:24]:
                    expected = left_out(sizes, order, forcing)
                    self.assertEqual(called(self, tree_reason, sizes, tree, case, list(order)), expected)
                    self.assertEqual(reasons.reason_by(sizes, tree, case, list(order)), expected)

    def test_turns_are_the_least_sets_of_the_ways(self):
        source = random.Random(18)
        for sizes, tree in samples():
            case = some_case(source, sizes)
            other = not told(sizes, tree, case)
            sets = [[at for at, value in tests if case[at] != value] for tests, result in ways(sizes, tree) if result is other]
            self.assertEqual(tree_turns(sizes, tree, case), least(sets))

    def test_many_fields(self):
        source = random.Random(19)
        for sizes, fields, small, tree in great_samples():
            sizes_of_small = [sizes[field] for field in fields]
            for _ in range(3):
                case = some_case(source, sizes)
                inner = [case[field] for field in fields]
                turning = least([sorted(change) for change in changes(sizes_of_small, small, inner)])
                expected = [[fields[at] for at in part] for part in turning]
                self.assertEqual(called(self, tree_turns, sizes, tree, case), expected)
                forcing = forcing_sets(sizes_of_small, small, inner)
                for part in sets_below(4):
                    chosen = {fields[at] for at in part} | {field for field in range(len(sizes)) if field not in fields}
                    for chosen in (sorted(chosen), [fields[at] for at in part]):
                        self.assertIs(called(self, tree_forces, sizes, tree, case, chosen), part in forcing)
                order = list(range(len(sizes)))
                source.shuffle(order)
                inner_order = [fields.index(field) for field in order if field in fields]
                expected = [fields[at] for at in left_out(sizes_of_small, inner_order, forcing)]
                self.assertEqual(called(self, tree_reason, sizes, tree, case, order), expected)

    def test_trees_of_one_say_form(self):
        for sizes in ([], [3], PLENTY):
            case = [1] * len(sizes)
            for tree in (YES, NO):
                self.assertEqual(called(self, tree_turns, sizes, tree, case), [])
                self.assertEqual(called(self, tree_reason, sizes, tree, case, list(range(len(sizes)))), [])
                self.assertIs(called(self, tree_forces, sizes, tree, case, []), True)

    def test_the_other_answer_stands_only_where_a_way_contradicts_itself(self):
        tree = ("tree", 0, (("tree", 0, (YES, NO)), YES))
        self.assertEqual(tree_turns(SIZES, tree, [0, 0, 0]), [])
        self.assertIs(tree_forces(SIZES, tree, [1, 0, 0], []), True)
        self.assertEqual(tree_reason(SIZES, tree, [0, 0, 0], [2, 1, 0]), [])

    def test_the_sequence_of_the_turns(self):
        tree = ("tree", 9, (("tree", 3, (NO, YES)), ("tree", 0, (("tree", 1, (NO, YES)), YES))))
        self.assertEqual(tree_turns([2] * 24, tree, [0] * 24), [[3], [0, 9], [1, 9]])
        tree = ("tree", 23, (("tree", 22, (NO, YES)), YES))
        self.assertEqual(tree_turns([2] * 24, tree, [0] * 24), [[22], [23]])

    def test_wrong_arguments(self):
        tree = ("tree", 0, (YES, NO))
        for fields in (None, 0, (0,), [1, 0], [0, 0], [3], [-1], [True], [None], ["0"], [[0]]):
            refused(self, InvalidFields, tree_forces, SIZES, tree, [0, 0, 0], fields)
        for order in (None, (0, 1, 2), [], [0, 1], [0, 1, 1], [0, 1, 3], [0, 1, 2, 2], [0, True, 2], [0, 1, "2"]):
            refused(self, InvalidFields, tree_reason, SIZES, tree, [0, 0, 0], order)
        for case in (None, (0, 0, 0), [0, 0], [2, 0, 0], [0, 0, None], [0, False, 0], "000"):
            refused(self, InvalidCase, tree_turns, SIZES, tree, case)
            refused(self, InvalidCase, tree_forces, SIZES, tree, case, None)
            refused(self, InvalidCase, tree_reason, SIZES, tree, case, None)


class YesTest(unittest.TestCase):
    def test_small_sheets(self):
        for sizes, tree in samples():
            expected = yes_cases(sizes, tree)
            self.assertEqual(called(self, count_tree_yes, sizes, tree), len(expected))
            for index, case in enumerate(expected):
                self.assertEqual(called(self, nth_tree_yes, sizes, tree, index), case)
            for index in (len(expected), len(expected) + 1, -1, 10 ** 31 - 1, True, False, None, "0", [0], (0,)):
                refused(self, InvalidIndex, nth_tree_yes, sizes, tree, index)

    def count_ahead(self, sizes, fields, small_yes, case):
        """How many cases that say yes are less than a case, counted value by value."""
        ahead = 0
        for at, value in enumerate(case):
            begun = {field: case[field] for field in fields if field < at}
            for less in range(value):
                given = {**begun, at: less}
                many = sum(all(yes[fields.index(f)] == given[f] for f in given if f in fields) for yes in small_yes)
                free = [sizes[field] for field in range(at + 1, len(sizes)) if field not in fields]
                ahead += many * math.prod(free)
        return ahead

    def test_many_fields(self):
        source = random.Random(20)
        for sizes, fields, small, tree in great_samples():
            small_yes = yes_cases([sizes[field] for field in fields], small)
            others = math.prod(size for field, size in enumerate(sizes) if field not in fields)
            count = called(self, count_tree_yes, sizes, tree)
            self.assertEqual(count, len(small_yes) * others)
            for index in [0, count - 1, count // 2, *[source.randrange(count) for _ in range(5)]] if count else []:
                case = called(self, nth_tree_yes, sizes, tree, index)
                self.assertIs(answer(sizes, tree, case), True)
                self.assertEqual(self.count_ahead(sizes, fields, small_yes, case), index)
            for index in (count, -1, -count - 1, True, None):
                refused(self, InvalidIndex, nth_tree_yes, sizes, tree, index)

    def test_trees_of_one_say_form(self):
        for sizes in ([], [3], [2] * 24, [6] * 24, PLENTY):
            self.assertEqual(called(self, count_tree_yes, sizes, YES), count_cases(sizes))
            self.assertEqual(called(self, count_tree_yes, sizes, NO), 0)
            self.assertEqual(called(self, nth_tree_yes, sizes, YES, count_cases(sizes) - 1), [size - 1 for size in sizes])
            refused(self, InvalidIndex, nth_tree_yes, sizes, NO, 0)

    def test_a_tree_that_tests_all_of_24_fields_on_a_way(self):
        sizes = [3 if field % 2 else 2 for field in range(24)]
        tree = ("tree", 23, (NO, NO, YES))
        for field in range(23):
            tree = ("tree", field, (NO, NO, tree) if field % 2 else (tree, NO))
        case = [2 if field % 2 else 0 for field in range(24)]
        self.assertEqual(measure(sizes, tree)[1], 25)
        self.assertEqual(called(self, count_tree_yes, sizes, tree), 1)
        self.assertEqual(called(self, nth_tree_yes, sizes, tree, 0), case)
        self.assertEqual(called(self, tree_turns, sizes, tree, case), [[field] for field in range(24)])


class GraftedTest(unittest.TestCase):
    def test_some_trees(self):
        tree = ("tree", 0, (YES, NO))
        upper, lower = ("tree", 1, (YES, NO, NO)), ("tree", 0, (YES, NO))
        self.assertEqual(called(self, grafted, SIZES, tree, upper, lower), ("tree", 0, (upper, NO)))
        self.assertEqual(called(self, grafted, SIZES, tree, lower, upper), ("tree", 0, (YES, upper)))
        self.assertEqual(called(self, grafted, SIZES, tree, upper, upper), upper)
        self.assertEqual(called(self, grafted, SIZES, tree, YES, NO), tree)
        self.assertEqual(called(self, grafted, SIZES, tree, NO, YES), ("tree", 0, (NO, YES)))
        self.assertEqual(called(self, grafted, SIZES, tree, tree, tree), ("tree", 0, (YES, NO)))
        self.assertEqual(called(self, grafted, [], YES, NO, YES), NO)
        self.assertEqual(called(self, grafted, [], NO, NO, YES), YES)
        self.assertEqual(called(self, grafted, SIZES, YES, TWISTED, NO), trimmed(SIZES, TWISTED))

    def test_compared_with_the_definition(self):
        source = random.Random(21)
        for sizes, tree in samples():
            upper, lower = some_tree(source, sizes, 3), some_tree(source, sizes, 3)
            found = called(self, grafted, sizes, tree, upper, lower)
            self.assertEqual(found, collapsed(replaced(with_leaves(tree, upper, lower), {})))
            for case in all_cases(sizes):
                chosen = upper if told(sizes, tree, case) else lower
                self.assertIs(told(sizes, found, case), told(sizes, chosen, case))

    def test_yes_and_no_exchanged(self):
        for sizes, tree in [*samples(), *[(sizes, tree) for sizes, _, _, tree in great_samples()]]:
            other = called(self, grafted, sizes, tree, NO, YES)
            self.assertEqual(count_tree_yes(sizes, tree) + count_tree_yes(sizes, other), count_cases(sizes))
            self.assertEqual(grafted(sizes, other, NO, YES), trimmed(sizes, tree))

    def test_many_fields(self):
        source = random.Random(22)
        for sizes, _, _, tree in great_samples():
            upper, lower = some_tree(source, sizes, 3), some_tree(source, sizes, 3)
            found = called(self, grafted, sizes, tree, upper, lower)
            for _ in range(20):
                case = some_case(source, sizes)
                chosen = upper if told(sizes, tree, case) else lower
                self.assertIs(answer(sizes, found, case), told(sizes, chosen, case))

    def test_returned_trees_are_passed_back(self):
        sizes = [2] * 24
        tree = ("tree", 0, (NO, YES))
        for field in range(1, 9):
            bit = ("tree", field, (NO, YES))
            tree = grafted(sizes, bit, grafted(sizes, tree, NO, YES), tree)
        self.assertEqual(measure(sizes, tree), (2 ** 10 - 1, 10))
        self.assertEqual(count_tree_yes(sizes, tree), 2 ** 23)
        self.assertEqual(tree_turns(sizes, tree, [1] * 24), [[field] for field in range(9)])
        self.assertEqual(tree_reason(sizes, tree, [0, 1] * 12, list(range(24))), list(range(9)))
        self.assertEqual(nth_tree_yes(sizes, tree, 0), [0] * 8 + [1] + [0] * 15)
        self.assertEqual(trimmed(sizes, tree), tree)


FUNCTIONS = [
    (ways, []), (trimmed, []), (tree_forces, [[0, 0, 0], [0]]), (tree_turns, [[0, 0, 0]]),
    (tree_reason, [[0, 0, 0], [0, 1, 2]]), (count_tree_yes, []), (nth_tree_yes, [0]), (grafted, [YES, NO]),
]


class WrongTreesTest(unittest.TestCase):
    def test_values_that_are_no_forms(self):
        for function, more in FUNCTIONS:
            for wrong in wrong_forms()[::7]:
                refused(self, InvalidForm, function, SIZES, wrong, *more)
                refused(self, InvalidForm, function, SIZES, ("tree", 0, (YES, wrong)), *more)
                # No form, although something else in it is no plain tree, either.
                refused(self, InvalidForm, function, SIZES, ("and", (YES, wrong)), *more)

    def test_forms_that_are_no_plain_trees(self):
        for function, more in FUNCTIONS:
            for form in OTHER_FORMS:
                refused(self, NoTree, function, SIZES, form, *more)
                refused(self, NoTree, function, SIZES, ("tree", 0, (YES, form)), *more)
                refused(self, NoTree, function, SIZES, ("tree", 1, (NO, ("tree", 0, (form, NO)), YES)), *more)
            refused(self, InvalidSizes, function, (2, 3, 2), ("not", YES), *more)

    def test_no_tree_is_told_ahead_of_what_follows(self):
        for function, more in FUNCTIONS:
            refused(self, NoTree, function, SIZES, ("not", YES), *[None for _ in more])
            refused(self, InvalidForm, function, SIZES, None, *[None for _ in more])

    def test_upper_and_lower(self):
        tree = ("tree", 0, (YES, NO))
        for form in OTHER_FORMS:
            refused(self, NoTree, grafted, SIZES, tree, form, NO)
            refused(self, NoTree, grafted, SIZES, tree, NO, form)
            refused(self, NoTree, grafted, SIZES, tree, form, None)
            refused(self, NoTree, grafted, SIZES, form, None, None)
        for wrong in wrong_forms()[::5]:
            refused(self, InvalidForm, grafted, SIZES, tree, wrong, YES)
            refused(self, InvalidForm, grafted, SIZES, tree, YES, wrong)
            refused(self, InvalidForm, grafted, SIZES, tree, wrong, ("not", YES))
            refused(self, InvalidForm, grafted, SIZES, YES, ("tree", 1, (YES, wrong, NO)), wrong)

    def test_drawn_forms(self):
        source = random.Random(23)
        for _ in range(200):
            form = some_form(source, SIZES, 4)
            if is_plain_tree(SIZES, form):
                called(self, ways, SIZES, form)
            else:
                refused(self, NoTree, ways, SIZES, form)


class ResultsTest(unittest.TestCase):
    def test_changed_results_change_no_later_ones(self):
        tree, case = ("tree", 0, (("tree", 1, (YES, NO, YES)), ("tree", 2, (NO, YES)))), [0, 0, 0]
        calls = [(ways, []), (tree_turns, [case]), (tree_reason, [case, [2, 1, 0]]), (nth_tree_yes, [3])]
        for function, more in calls:
            first = function(SIZES, tree, *more)
            expected = copy.deepcopy(first)
            for part in first:
                if isinstance(part, list):
                    part.append(9)
            first.append(9)
            self.assertEqual(function(SIZES, tree, *more), expected)
            self.assertEqual((case, SIZES), ([0, 0, 0], [2, 3, 2]))
        self.assertEqual(listed(tree_turns(SIZES, tree, case)), tree_turns(SIZES, tree, case))


if __name__ == "__main__":
    unittest.main()
