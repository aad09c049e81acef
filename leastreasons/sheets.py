"""Sheets and their cases: what they are, how they are numbered, and which ones complete a half case."""

from leastreasons.errors import (InvalidCase, InvalidField, InvalidFields, InvalidHalf, InvalidIndex, InvalidSizes,
                                 NotSmall)
from leastreasons.kinds import are_ascending_below, is_integer, is_integer_below

MOST_FIELDS = 24
LEAST_SIZE = 2
GREATEST_SIZE = 6
MOST_CASES_OF_SMALL = 1024


def is_sizes(value):
    """Whether any value is the sizes of a sheet."""
    if not isinstance(value, list) or len(value) > MOST_FIELDS:
        return False
    return all([is_integer(size) and LEAST_SIZE <= size <= GREATEST_SIZE for size in value])


def check_sizes(sizes):
    """Raise InvalidSizes unless any value is the sizes of a sheet."""
    if not is_sizes(sizes):
        raise InvalidSizes("sizes are a list of at most 24 integers from 2 to 6")


def is_half_case(sizes, value):
    """Whether any value is a half case of the sheet."""
    if not isinstance(value, list) or len(value) != len(sizes):
        return False
    return all([value[at] is None or is_integer_below(value[at], sizes[at]) for at in range(len(sizes))])


def is_case(sizes, value):
    """Whether any value is a case of the sheet."""
    return is_half_case(sizes, value) and None not in value


def check_case(sizes, case):
    """Raise InvalidCase unless any value is a case of the sheet."""
    if not is_case(sizes, case):
        raise InvalidCase("a case is a list with one of its values for each field")


def check_half(sizes, half):
    """Raise InvalidHalf unless any value is a half case of the sheet."""
    if not is_half_case(sizes, half):
        raise InvalidHalf("a half case is a list with one of its values or None for each field")


def check_field(sizes, field):
    """Raise InvalidField unless any value is a field of the sheet."""
    if not is_integer_below(field, len(sizes)):
        raise InvalidField("a field is an integer from 0 on, less than the number of sizes")


def check_fields(sizes, fields):
    """Raise InvalidFields unless any value is an ascending list of fields of the sheet."""
    if not isinstance(fields, list) or not are_ascending_below(fields, len(sizes)):
        raise InvalidFields("fields are an ascending list of fields of the sheet")


def check_order(sizes, order):
    """Raise InvalidFields unless any value is a list that has each field of the sheet exactly once."""
    if not _is_order(sizes, order):
        raise InvalidFields("an order is a list that has each field of the sheet exactly once")


def check_index(index, count):
    """Raise InvalidIndex unless any value is an integer from 0 on that is less than the count."""
    if not is_integer_below(index, count):
        raise InvalidIndex("an index is an integer from 0 on, less than the number of what is numbered")


def number_of_cases(sizes):
    """How many cases there are, for sizes that are checked."""
    number = 1
    for size in sizes:
        number = number * size
    return number


def is_small_sheet(sizes):
    """Whether the sheet is small, for sizes that are checked."""
    return number_of_cases(sizes) <= MOST_CASES_OF_SMALL


def check_small(sizes):
    """Raise NotSmall unless the sheet is small."""
    if not is_small_sheet(sizes):
        raise NotSmall("the sheet has more than 1,024 cases")


def place_of_case(sizes, case):
    """The index of a case in ascending order, for arguments that are checked."""
    # The last field changes first from one case to the next, so it is the last digit of the index.
    place = 0
    for at in range(len(sizes)):
        place = place * sizes[at] + case[at]
    return place


def case_of_place(sizes, place):
    """The case with an index in ascending order, for arguments that are checked."""
    case = [0] * len(sizes)
    rest = place
    for at in reversed(range(len(sizes))):
        case[at] = rest % sizes[at]
        rest = rest // sizes[at]
    return case


def unknown_fields(half):
    """The list of the unknown fields of a half case."""
    return [field for field in range(len(half)) if half[field] is None]


def list_completing(sizes, half):
    """The ascending list of the cases that complete a half case, for arguments that are checked."""
    cases = [[]]
    for at in range(len(sizes)):
        choices = list(range(sizes[at])) if half[at] is None else [half[at]]
        cases = [[*begun, value] for begun in cases for value in choices]
    return cases


def unlike_fields(case, second_case):
    """The list of the fields in which two cases have unlike values, for cases that are checked."""
    return [at for at in range(len(case)) if case[at] != second_case[at]]


def nth_counted_case(sizes, index, count_begun):
    """The case with an index among some cases, of which count_begun tells how many begin with some values."""
    begun = []
    rest = index
    for _ in sizes:
        value = 0
        many = count_begun([*begun, value])
        while rest >= many:
            rest = rest - many
            value += 1
            many = count_begun([*begun, value])
        begun.append(value)
    return begun


def count_cases(sizes):
    """How many cases the sheet has."""
    check_sizes(sizes)
    return number_of_cases(sizes)


def is_small(sizes):
    """Whether the sheet has at most 1,024 cases."""
    check_sizes(sizes)
    return is_small_sheet(sizes)


def nth_case(sizes, index):
    """The case with an index in ascending order."""
    check_sizes(sizes)
    check_index(index, number_of_cases(sizes))
    return case_of_place(sizes, index)


def case_index(sizes, case):
    """The index of a case in ascending order."""
    check_sizes(sizes)
    check_case(sizes, case)
    return place_of_case(sizes, case)


def completing(sizes, half):
    """The ascending list of all cases that complete a half case."""
    check_sizes(sizes)
    check_half(sizes, half)
    check_small(sizes)
    return list_completing(sizes, half)


def differing(sizes, case, second_case):
    """The list of the fields in which two cases have unlike values."""
    check_sizes(sizes)
    check_case(sizes, case)
    check_case(sizes, second_case)
    return unlike_fields(case, second_case)


def _is_order(sizes, value):
    """Whether any value is a list that has each field of the sheet exactly once."""
    if not isinstance(value, list) or len(value) != len(sizes):
        return False
    if not all([is_integer_below(field, len(sizes)) for field in value]):
        return False
    return all([field in value for field in range(len(sizes))])
