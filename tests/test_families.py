"""Promises 13 and 14: families of sets, compared with going through all sets of members below the size."""

import copy
import itertools
import random
import unittest

from leastreasons.errors import InvalidFamily, InvalidIndex, InvalidMembers
from leastreasons.families import (apart, count_meeting, dropped, in_all, in_some, joined, least_sets, meeting,
                                   meets_all, paired, shortest_meeting, taken)
from tests.brute import least, listed, meeting_sets, meets, most_apart, sets_below, some_family
from tests.reference import ANY_VALUES, called, nested, refused


def drawn(seed, sizes=range(11), number=6):
    """Pairs of a size and a family, always the same ones; greater sizes have fewer of them."""
    source = random.Random(seed)
    found = []
    for size in sizes:
        found += [(size, []), (size, [[]]), (size, [[], []]), (size, [list(range(size))])]
        found += [(size, [[member] for member in range(size)][::-1])]
        found += [(size, some_family(source, size)) for _ in range(number if size > 7 else 4 * number)]
    return found


def some_members(source, size):
    """None, some and all members."""
    return [[], list(range(size)), [member for member in range(size) if source.random() < 0.4]]


def of_length(size, length):
    """All sets of one length, the last one first."""
    return [list(members) for members in itertools.combinations(range(size), length)][::-1]


class LeastSetsTest(unittest.TestCase):
    def test_some_families(self):
        self.assertEqual(called(self, least_sets, 4, [[1, 2], [0, 3], [2], [0, 1, 3], [2]]), [[2], [0, 3]])
        self.assertEqual(called(self, least_sets, 4, [[2, 3], [1], [0, 3], [0, 2]]), [[1], [0, 2], [0, 3], [2, 3]])
        self.assertEqual(called(self, least_sets, 3, []), [])
        self.assertEqual(called(self, least_sets, 0, []), [])
        self.assertEqual(called(self, least_sets, 0, [[], []]), [[]])
        self.assertEqual(called(self, least_sets, 3, [[0, 1, 2], [], [1]]), [[]])
        self.assertEqual(called(self, least_sets, 10, [[9], [0, 9], [0, 1]]), [[9], [0, 1]])

    def test_compared_with_the_definition(self):
        for size, family in drawn(1):
            self.assertEqual(called(self, least_sets, size, family), least(family), family)

    def test_in_which_sequence_sets_are_listed(self):
        for size in (0, 1, 2, 5, 10):
            for length in range(size + 1):
                self.assertEqual(least_sets(size, of_length(size, length)), of_length(size, length)[::-1])
        self.assertEqual(least_sets(10, [[8, 9], [1, 2, 3], [0, 4, 5, 6], [7], [0, 1], [0, 4, 5]]),
                         [[7], [0, 1], [8, 9], [0, 4, 5], [1, 2, 3]])


class MeetingTest(unittest.TestCase):
    def test_some_families(self):
        self.assertEqual(called(self, meeting, 3, [[0, 1], [0, 2]]), [[0], [1, 2]])
        self.assertEqual(called(self, meeting, 3, [[1, 2], [0]]), [[0, 1], [0, 2]])
        self.assertEqual(called(self, meeting, 4, [[0, 1], [2, 3]]), [[0, 2], [0, 3], [1, 2], [1, 3]])
        self.assertEqual(called(self, meeting, 4, [[3], [3], [2, 3]]), [[3]])

    def test_no_sets_and_the_empty_set(self):
        for size in range(11):
            self.assertEqual(called(self, meeting, size, []), [[]])
            self.assertEqual(called(self, meeting, size, [[]]), [])
            self.assertEqual(called(self, meeting, size, [[], list(range(size)), []]), [])
            self.assertEqual(called(self, meeting, size, [list(range(size)), []]), [])

    def test_compared_with_going_through_all_sets(self):
        for size, family in drawn(2):
            expected = meeting_sets(size, family)
            self.assertEqual(called(self, meeting, size, family), least(expected), family)
            self.assertEqual(called(self, count_meeting, size, family), len(expected), family)
            shortest = min([len(members) for members in expected], default=None)
            self.assertEqual(called(self, shortest_meeting, size, family), shortest, family)

    def test_meets_all(self):
        source = random.Random(3)
        for size, family in drawn(3, number=2):
            for members in (sets_below(size) if size < 6 else [*some_members(source, size), [size - 1], [0, 2, 5]]):
                self.assertIs(called(self, meets_all, size, family, members), meets(members, family))
        self.assertIs(meets_all(3, [[0, 1], [2]], [1, 2]), True)
        self.assertIs(meets_all(3, [[0, 1], [2]], [0, 1]), False)
        self.assertIs(meets_all(3, [[0, 1], []], [0, 1, 2]), False)
        self.assertIs(meets_all(0, [], []), True)
        self.assertIs(meets_all(0, [[]], []), False)

    def test_families_of_many_sets(self):
        for length in range(11):
            family = of_length(10, length)
            self.assertEqual(meeting(10, family), sorted(of_length(10, 11 - length)) if length else [])
            self.assertEqual(shortest_meeting(10, family), 11 - length if length else None)
        source = random.Random(4)
        for _ in range(3):
            family = [source.choice(sets_below(10)[40:]) for _ in range(300)]
            expected = meeting_sets(10, family)
            self.assertEqual(called(self, meeting, 10, family), least(expected))
            self.assertEqual(called(self, count_meeting, 10, family), len(expected))
            self.assertEqual(called(self, least_sets, 10, family), least(family))

    def test_counts(self):
        for size in range(11):
            self.assertEqual(called(self, count_meeting, size, []), 2 ** size)
            self.assertEqual(called(self, count_meeting, size, [[]]), 0)
            self.assertEqual(called(self, count_meeting, size, [list(range(size))]), 2 ** size - 1)
            self.assertEqual(called(self, shortest_meeting, size, []), 0)
            self.assertIs(called(self, shortest_meeting, size, [[]]), None)


class TwoFamiliesTest(unittest.TestCase):
    def test_some_families(self):
        self.assertEqual(called(self, joined, 4, [[0, 1], [2]], [[1], [2, 3], [0, 3]]), [[1], [2], [0, 3]])
        self.assertEqual(called(self, paired, 4, [[0, 1], [2]], [[1], [0, 3]]), [[0, 1], [1, 2], [0, 2, 3]])
        for function, both, alone in ((joined, [[]], [[0, 2]]), (paired, [[0, 2]], [])):
            self.assertEqual(called(self, function, 3, [], []), [])
            self.assertEqual(called(self, function, 3, [[0, 2]], [[]]), both)
            self.assertEqual(called(self, function, 3, [[]], [[0, 2]]), both)
            self.assertEqual(called(self, function, 3, [[0, 2]], []), alone)
            self.assertEqual(called(self, function, 3, [], [[0, 2], [0, 2]]), alone)
            self.assertEqual(called(self, function, 0, [[]], [[]]), [[]])

    def test_compared_with_the_definitions(self):
        source = random.Random(5)
        for size, one in drawn(5):
            other = some_family(source, size)
            self.assertEqual(called(self, joined, size, one, other), least(one + other))
            unions = [set(part) | set(another) for part in one for another in other]
            self.assertEqual(called(self, paired, size, one, other), least([sorted(union) for union in unions]))

    def test_300_sets_each(self):
        source = random.Random(6)
        one = [source.choice(sets_below(10)[10:]) for _ in range(300)]
        other = [source.choice(sets_below(10)[60:]) for _ in range(300)]
        self.assertEqual(called(self, joined, 10, one, other), least(one + other))
        unions = listed([sorted(set(part) | set(another)) for part in one for another in other])
        self.assertEqual(called(self, paired, 10, one, other), least(unions))

    def test_the_same_list_twice(self):
        family = [[1], [0, 2]]
        self.assertEqual(joined(3, family, family), [[1], [0, 2]])
        self.assertEqual(paired(3, family, family), [[1], [0, 2]])
        self.assertEqual(family, [[1], [0, 2]])


class LeftOutTest(unittest.TestCase):
    def test_some_families(self):
        family = [[0, 1], [2], [1, 3], [3]]
        self.assertEqual(called(self, dropped, 4, family, [2]), [[3], [0, 1]])
        self.assertEqual(called(self, dropped, 4, family, [3]), [[2], [0, 1]])
        self.assertEqual(called(self, dropped, 4, family, [1, 2, 3]), [])
        self.assertEqual(called(self, taken, 4, family, [1]), [[0], [2], [3]])
        self.assertEqual(called(self, taken, 4, family, [2]), [[]])
        self.assertEqual(called(self, taken, 4, family, [0, 3]), [[]])
        self.assertEqual(called(self, taken, 4, [[0, 1], [2, 3]], [0, 3]), [[1], [2]])
        for function in (dropped, taken):
            self.assertEqual(called(self, function, 4, family, []), [[2], [3], [0, 1]])
            self.assertEqual(called(self, function, 4, [], [0, 1]), [])
            self.assertEqual(called(self, function, 4, [[]], [0, 1]), [[]])
            self.assertEqual(called(self, function, 0, [[]], []), [[]])

    def test_compared_with_the_definitions(self):
        source = random.Random(7)
        for size, family in drawn(7):
            for members in some_members(source, size):
                without = [part for part in family if not set(part) & set(members)]
                self.assertEqual(called(self, dropped, size, family, members), least(without))
                lost = [[member for member in part if member not in members] for part in family]
                self.assertEqual(called(self, taken, size, family, members), least(lost))


class MembersTest(unittest.TestCase):
    def test_no_sets_and_the_empty_set(self):
        for size in range(11):
            self.assertEqual(called(self, in_some, size, []), [])
            self.assertEqual(called(self, in_all, size, []), list(range(size)))
            self.assertEqual(called(self, in_some, size, [[], list(range(size))]), [])
            self.assertEqual(called(self, in_all, size, [list(range(size)), []]), [])

    def test_some_families(self):
        self.assertEqual(called(self, in_some, 5, [[0, 1], [0, 3], [0, 1, 4]]), [0, 1, 3])
        self.assertEqual(called(self, in_all, 5, [[0, 1], [0, 3], [1, 3, 4]]), [])
        self.assertEqual(called(self, in_all, 5, [[0, 1], [0, 3], [0, 3, 4]]), [0])
        self.assertEqual(called(self, in_all, 5, [[1, 3], [1, 2, 3], [1, 3], [0, 1, 3, 4]]), [1, 3])

    def test_compared_with_the_definitions(self):
        for size, family in drawn(8):
            sets = least(family)
            some = [member for member in range(size) if any(member in part for part in sets)]
            every = [member for member in range(size) if all(member in part for part in sets)]
            self.assertEqual(called(self, in_some, size, family), some)
            self.assertEqual(called(self, in_all, size, family), every)


class ApartTest(unittest.TestCase):
    def test_some_families(self):
        for size, family, most in (
                (3, [], 0), (0, [], 0), (0, [[]], 1), (0, [[], []], 1), (3, [[], []], 1), (3, [[1], []], 2),
                (3, [[1], [1], [1]], 1), (3, [[0, 1], [1, 2], [0, 2]], 1), (4, [[0, 1], [1, 2], [2, 3]], 2),
                (4, [[0, 1], [0, 1], [2], [2], [], []], 3), (4, [[0, 1, 2, 3], [0, 1], [2, 3]], 2),
                (5, [[0, 1, 2], [0, 3], [1, 4], [2]], 3), (6, [[0, 1], [2, 3], [1, 2], [4, 5], [3, 4]], 3)):
            self.assertEqual(called(self, apart, size, family), most, family)

    def test_compared_with_trying_all_choices(self):
        for size, family in drawn(9):
            self.assertEqual(called(self, apart, size, family), most_apart(family), family)

    def test_families_of_many_sets(self):
        for size in (6, 9, 10):
            for length in range(1, size + 1):
                self.assertEqual(apart(size, of_length(size, length)), size // length)
        everything = [[]] + [part for length in (1, 2, 3) for part in of_length(10, length)]
        self.assertEqual(called(self, apart, 10, everything), 11)
        self.assertEqual(called(self, apart, 10, everything[11:]), 5)
        self.assertEqual(called(self, apart, 10, everything[:1] + everything[11:]), 6)
        touching = [part for part in of_length(10, 4) if 9 in part] + [[0, 1, 2], [3, 4], [4, 5, 6]]
        self.assertEqual(called(self, apart, 10, touching), 3)


class FactsTest(unittest.TestCase):
    def test_facts_of_meeting(self):
        source = random.Random(10)
        for size, one in drawn(10):
            other = some_family(source, size)
            self.assertEqual(meeting(size, meeting(size, one)), least_sets(size, one))
            both = [meeting(size, one), meeting(size, other)]
            self.assertEqual(meeting(size, joined(size, one, other)), paired(size, *both))
            self.assertEqual(meeting(size, paired(size, one, other)), joined(size, *both))
            for members in some_members(source, size):
                self.assertEqual(meeting(size, dropped(size, one, members)), taken(size, both[0], members))
                self.assertEqual(meeting(size, taken(size, one, members)), dropped(size, both[0], members))

    def test_apart_is_at_most_shortest_meeting(self):
        for size, family in drawn(11):
            shortest = shortest_meeting(size, family)
            self.assertEqual(shortest is None, [] in family)
            if shortest is not None:
                self.assertLessEqual(apart(size, family), shortest)


ONE_FAMILY = [least_sets, meeting, in_some, in_all, count_meeting, shortest_meeting, apart]
WITH_MEMBERS = [meets_all, dropped, taken]
TWO_FAMILIES = [joined, paired]
WRONG_SIZES = [-1, 11, 10 ** 31 - 1, True, False, None, "3", "", [], [3], (3,), nested(list, 40)]
WRONG_FAMILIES = [
    None, True, 0, 3, "", "[]", (), ((0,),), ([0],), [0], [None], [True], ["0"], [()], [(0,)], [[0], (1,)], [[-1]],
    [[3]], [[0, 3]], [[-1, 0]], [[0, 0]], [[1, 0]], [[0], [2, 1]], [[0, 1, 1]], [[True]], [[False, 1]], [[0, True]],
    [[None]], [["0"]], [[[0]]], [[[]]], [[0], []][:1] * 301, [[]] * 301, [[]] * 100_000, [[10 ** 31 - 1]], [[], None],
    {}, [{}], [range(2)],
]
WRONG_MEMBERS = [
    None, True, 0, 3, "", "0", (), (0,), (0, 1), [None], [True], [False], ["0"], [[0]], [[]], [-1], [3], [0, 3], [0, 0],
    [1, 0], [0, 2, 1], [0, 1, 1], [0, True], [10 ** 31 - 1], [0] * 100_000, range(2),
]


class WrongValuesTest(unittest.TestCase):
    def test_wrong_sizes(self):
        for size in WRONG_SIZES:
            for family, members in (([[0]], [0]), ([], []), (None, None), ([[99]], [99]), ([[]] * 301, (0,))):
                for function in ONE_FAMILY:
                    refused(self, InvalidIndex, function, size, family)
                for function in WITH_MEMBERS:
                    refused(self, InvalidIndex, function, size, family, members)
                for function in TWO_FAMILIES:
                    refused(self, InvalidIndex, function, size, family, family)

    def test_right_sizes(self):
        for size in range(11):
            self.assertEqual(least_sets(size, []), [])

    def test_wrong_families(self):
        for family in WRONG_FAMILIES:
            for function in ONE_FAMILY:
                refused(self, InvalidFamily, function, 3, family)
            for function in WITH_MEMBERS:
                for members in ([0], None, [3]):
                    refused(self, InvalidFamily, function, 3, family, members)
            for function in TWO_FAMILIES:
                refused(self, InvalidFamily, function, 3, family, [[0]])
                refused(self, InvalidFamily, function, 3, [[0]], family)
                refused(self, InvalidFamily, function, 3, family, family)

    def test_wrong_members(self):
        for members in WRONG_MEMBERS:
            for function in WITH_MEMBERS:
                refused(self, InvalidMembers, function, 3, [[0, 1], [2]], members)

    def test_values_of_every_kind(self):
        right_families = [repr(family) for family in ([], [[]])]
        right_members = [repr(members) for members in ([], [0], [1])]
        for value in ANY_VALUES:
            if repr(value) not in ("0", "1", "2"):
                refused(self, InvalidIndex, meeting, value, [])
            if repr(value) not in right_families:
                refused(self, InvalidFamily, meeting, 2, value)
                refused(self, InvalidFamily, joined, 2, [[0]], value)
            if repr(value) not in right_members:
                refused(self, InvalidMembers, taken, 2, [[0]], value)

    def test_members_are_below_the_size(self):
        for size in range(10):
            refused(self, InvalidFamily, meeting, size, [[size]])
            refused(self, InvalidMembers, dropped, size, [], [size])
            self.assertEqual(meeting(size + 1, [[size]]), [[size]])
            self.assertEqual(dropped(size + 1, [[size]], [size]), [])

    def test_300_and_301_sets(self):
        for function in ONE_FAMILY:
            called(self, function, 4, [[0, 3]] * 300)
            refused(self, InvalidFamily, function, 4, [[0, 3]] * 301)
        for function in TWO_FAMILIES:
            self.assertEqual(called(self, function, 4, [[0, 3]] * 300, [[0, 3]] * 300), [[0, 3]])
            refused(self, InvalidFamily, function, 4, [[0, 3]] * 300, [[0, 3]] * 301)


class ResultsTest(unittest.TestCase):
    def test_returned_lists_are_new(self):
        family = [[0], [1, 2]]
        for function, passed in ((least_sets, [family]), (joined, [family, family]), (paired, [family, family]),
                                 (dropped, [family, []]), (taken, [family, []])):
            found = function(3, *passed)
            self.assertEqual(found, family)
            self.assertFalse({id(part) for part in found} & {id(part) for part in family})
            self.assertIsNot(found, family)

    def test_changed_results_change_no_later_ones(self):
        family, members = [[0, 3], [1, 2], [2, 3], [0, 3]], [1]
        calls = [(function, [4, family]) for function in ONE_FAMILY]
        calls += [(function, [4, family, members]) for function in WITH_MEMBERS]
        calls += [(function, [4, family, family]) for function in TWO_FAMILIES]
        for function, passed in calls:
            first = function(*passed)
            expected = copy.deepcopy(first)
            for part in first if isinstance(first, list) else []:
                if isinstance(part, list):
                    part.append(9)
            if isinstance(first, list):
                first.append([9])
            self.assertEqual(function(*passed), expected)
            self.assertEqual((family, members), ([[0, 3], [1, 2], [2, 3], [0, 3]], [1]))


if __name__ == "__main__":
    unittest.main()
