"""Promises 3 and 8: sheets, their cases and half cases."""

import itertools
import unittest

from leastreasons.errors import InvalidCase, InvalidHalf, InvalidIndex, InvalidSizes, NotSmall, ReasonError
from leastreasons.sheets import case_index, completing, count_cases, differing, is_sizes, is_small, nth_case
from tests.reference import ANY_VALUES, all_cases, all_halves, called, completes, refused

SHEETS = [[], [2], [6], [2, 3], [3, 2], [6, 6], [2, 2, 3], [5, 2, 4], [2, 3, 4, 5], [2] * 10, [4] * 5]
LEAST_SHEETS_THAT_ARE_NOT_SMALL = [[6, 6, 6, 5], [5, 6, 6, 6], [2, 2, 2, 3, 3, 3, 5]]


class SizesTest(unittest.TestCase):
    def test_the_number_of_sizes(self):
        for number in (0, 1, 2, 23, 24):
            self.assertIs(called(self, is_sizes, [2] * number), True)
        for number in (25, 26, 100, 100_000):
            self.assertIs(called(self, is_sizes, [2] * number), False)

    def test_each_size(self):
        for size in (2, 3, 4, 5, 6):
            for sizes in ([size], [size, 2], [2, size], [6, size, 6], [6] * 23 + [size]):
                self.assertIs(called(self, is_sizes, sizes), True)
        for size in (1, 7, 0, -1, -2, 10 ** 31 - 1, True, False, None, "2", "", [], [2], (2,), ReasonError("2")):
            for sizes in ([size], [size, 2], [2, size], [6, size, 6], [6] * 23 + [size]):
                self.assertIs(is_sizes(sizes), False)
                self.assertIs(is_sizes(value=sizes), False)

    def test_values_of_every_kind(self):
        for value in ANY_VALUES:
            expected = isinstance(value, list) and value == []
            self.assertIs(is_sizes(value), expected, repr(value)[:300])
        for value in ((2, 3), (), "23", {}, [[2, 3]], [[2], [3]], [2, [3]], [(2, 3)], range(2, 4)):
            self.assertIs(is_sizes(value), False, value)

    def test_other_values_are_no_sizes_anywhere(self):
        for sizes in (None, 2, True, "2", (2, 3), [1], [7], [True], [None], ["2"], [[2]], [2] * 25):
            refused(self, InvalidSizes, count_cases, sizes)
            refused(self, InvalidSizes, is_small, sizes)
            refused(self, InvalidSizes, nth_case, sizes, 0)
            refused(self, InvalidSizes, nth_case, sizes, -1)
            refused(self, InvalidSizes, case_index, sizes, [0])
            refused(self, InvalidSizes, case_index, sizes, None)
            refused(self, InvalidSizes, completing, sizes, [None])
            refused(self, InvalidSizes, completing, sizes, None)
            refused(self, InvalidSizes, differing, sizes, [0], [0])
            refused(self, InvalidSizes, differing, sizes, None, None)


class CountTest(unittest.TestCase):
    def test_how_many_cases(self):
        self.assertEqual(called(self, count_cases, []), 1)
        self.assertEqual(called(self, count_cases, [2]), 2)
        self.assertEqual(called(self, count_cases, [6]), 6)
        self.assertEqual(called(self, count_cases, [2, 3]), 6)
        self.assertEqual(called(self, count_cases, [2, 2, 3]), 12)
        self.assertEqual(called(self, count_cases, [2, 3, 4, 5, 6]), 720)
        self.assertEqual(called(self, count_cases, [6] * 24), 6 ** 24)
        self.assertEqual(called(self, count_cases, [2] * 24), 2 ** 24)
        for sizes in SHEETS:
            self.assertEqual(count_cases(sizes), len(all_cases(sizes)))

    def test_small_sheets(self):
        for sizes in ([], [2], [6] * 3, [2] * 9, [2] * 10, [4] * 5, [4, 2, 4, 2, 4, 4], [5, 5, 5, 2, 4], [6, 6, 6, 4]):
            self.assertIs(called(self, is_small, sizes), True, sizes)
        self.assertEqual(count_cases([4, 2, 4, 2, 4, 4]), 1024)

    def test_sheets_that_are_not_small(self):
        for sizes in (*LEAST_SHEETS_THAT_ARE_NOT_SMALL, [2] * 11, [2] * 10 + [6], [6] * 4, [6] * 24, [2] * 24):
            self.assertIs(called(self, is_small, sizes), False, sizes)
        self.assertEqual([count_cases(sizes) for sizes in LEAST_SHEETS_THAT_ARE_NOT_SMALL], [1080, 1080, 1080])


class IndexTest(unittest.TestCase):
    def test_back_and_forth_over_all_cases(self):
        for sizes in SHEETS:
            for index, case in enumerate(all_cases(sizes)):
                self.assertEqual(nth_case(sizes, index), case)
                self.assertEqual(case_index(sizes, case), index)

    def test_some_cases(self):
        self.assertEqual(called(self, nth_case, [2, 3], 3), [1, 0])
        self.assertEqual(called(self, nth_case, [3, 2], 3), [1, 1])
        self.assertEqual(called(self, nth_case, [2, 2, 3], 10), [1, 1, 1])
        self.assertEqual(called(self, case_index, [2, 3], [1, 0]), 3)
        self.assertEqual(called(self, case_index, [3, 2], [2, 0]), 4)
        self.assertEqual(called(self, case_index, [2, 2, 3], [1, 1, 1]), 10)
        self.assertEqual(called(self, nth_case, [], 0), [])
        self.assertEqual(called(self, case_index, [], []), 0)

    def test_many_fields(self):
        for sizes in ([6] * 24, [2] * 24, [2, 3, 4, 5, 6, 2] * 4):
            count = count_cases(sizes)
            self.assertEqual(called(self, nth_case, sizes, 0), [0] * 24)
            self.assertEqual(called(self, nth_case, sizes, 1), [0] * 23 + [1])
            self.assertEqual(called(self, nth_case, sizes, count - 1), [size - 1 for size in sizes])
            self.assertEqual(called(self, case_index, sizes, [0] * 24), 0)
            self.assertEqual(called(self, case_index, sizes, [1] + [0] * 23), count // sizes[0])
            self.assertEqual(called(self, case_index, sizes, [size - 1 for size in sizes]), count - 1)
            for index in range(0, count, count // 97):
                case = nth_case(sizes, index)
                self.assertEqual(case_index(sizes, case), index)
                for near in {max(index - 1, 0), index, min(index + 1, count - 1)}:
                    self.assertEqual(nth_case(sizes, near) < case, near < index)

    def test_wrong_indexes(self):
        for sizes in ([], [2], [2, 3], [6] * 24):
            count = count_cases(sizes)
            for index in (-1, count, count + 1, -count, 10 ** 31 - 1, 1 - 10 ** 31, True, False, None, "0", "", [], [0],
                          (0,), ReasonError("0")):
                refused(self, InvalidIndex, nth_case, sizes, index)

    def test_wrong_cases(self):
        for case in (None, 0, "00", (0, 0), (), [], [0], [0, 0, 0], [2, 0], [0, 3], [-1, 0], [0, -1], [None, 0], [0, None],
                     [True, 0], [0, False], ["0", 0], [[0], 0], [[0, 0]], [0, (0,)], [0, 10 ** 31 - 1], [None, None]):
            refused(self, InvalidCase, case_index, [2, 3], case)
        for case in (None, 0, "", (), [0], [[]], [None]):
            refused(self, InvalidCase, case_index, [], case)


class CompletingTest(unittest.TestCase):
    def test_compared_with_going_through_all_cases(self):
        for sizes in ([], [2], [6], [2, 3], [3, 2, 2], [2, 2, 3], [4, 2, 3], [2, 2, 2, 2, 2]):
            for half in all_halves(sizes):
                expected = [case for case in all_cases(sizes) if completes(case, half)]
                self.assertEqual(called(self, completing, sizes, half), expected)

    def test_some_half_cases(self):
        self.assertEqual(called(self, completing, [2, 3], [None, 1]), [[0, 1], [1, 1]])
        self.assertEqual(called(self, completing, [2, 3], [1, None]), [[1, 0], [1, 1], [1, 2]])
        self.assertEqual(called(self, completing, [2, 3], [0, 2]), [[0, 2]])
        self.assertEqual(called(self, completing, [], []), [[]])
        self.assertEqual(called(self, completing, [2], [None]), [[0], [1]])

    def test_the_greatest_small_sheets(self):
        for sizes in ([2] * 10, [4] * 5):
            self.assertEqual(called(self, completing, sizes, [None] * len(sizes)), all_cases(sizes))
            for known in ([0], [1, 3], [0, 1, 2, 3, 4]):
                half = [1 if field in known else None for field in range(len(sizes))]
                expected = [case for case in all_cases(sizes) if completes(case, half)]
                self.assertEqual(called(self, completing, sizes, half), expected)

    def test_sheets_that_are_not_small(self):
        for sizes in (*LEAST_SHEETS_THAT_ARE_NOT_SMALL, [2] * 11, [6] * 24):
            for half in ([None] * len(sizes), [0] * len(sizes), [1] + [None] * (len(sizes) - 1)):
                refused(self, NotSmall, completing, sizes, half)
            refused(self, InvalidHalf, completing, sizes, [None])
            refused(self, InvalidHalf, completing, sizes, [6] * len(sizes))

    def test_wrong_half_cases(self):
        for half in (None, 0, "??", (None, 0), (None, None), [], [None], [None] * 3, [2, None], [None, 3], [-1, None],
                     [None, -1], [True, None], [None, False], ["?", None], [None, [0]], [[None, None]], [None, ()]):
            refused(self, InvalidHalf, completing, [2, 3], half)
        for half in (None, (), [None], [0], [[]]):
            refused(self, InvalidHalf, completing, [], half)


class DifferingTest(unittest.TestCase):
    def test_some_cases(self):
        self.assertEqual(called(self, differing, [2, 2, 3], [1, 0, 2], [1, 0, 2]), [])
        self.assertEqual(called(self, differing, [2, 2, 3], [1, 0, 2], [0, 0, 1]), [0, 2])
        self.assertEqual(called(self, differing, [2, 2, 3], [1, 0, 2], [0, 1, 0]), [0, 1, 2])
        self.assertEqual(called(self, differing, [2, 2, 3], [0, 0, 0], [0, 0, 2]), [2])
        self.assertEqual(called(self, differing, [], [], []), [])
        self.assertEqual(called(self, differing, [6] * 24, [5] * 24, [4] * 24), list(range(24)))
        self.assertEqual(called(self, differing, [6] * 24, [5] * 24, [5] * 23 + [0]), [23])

    def test_all_pairs_of_cases(self):
        sizes = [2, 3, 2]
        for case, second in itertools.product(all_cases(sizes), repeat=2):
            expected = [field for field in range(3) if case[field] != second[field]]
            self.assertEqual(differing(sizes, case, second), expected)

    def test_one_list_for_both_cases(self):
        case = [1, 2]
        self.assertEqual(differing([2, 3], case, case), [])

    def test_wrong_cases(self):
        for case in (None, (0, 0), [0], [0, 0, 0], [0, None], [0, 3], [-1, 0], [True, 0], "00"):
            refused(self, InvalidCase, differing, [2, 3], case, [0, 0])
            refused(self, InvalidCase, differing, [2, 3], [0, 0], case)
            refused(self, InvalidCase, differing, [2, 3], case, case)


if __name__ == "__main__":
    unittest.main()
