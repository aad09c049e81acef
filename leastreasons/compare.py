"""Comparing and counting: where two forms differ, the cases with yes, and what each field does to the answers."""

from leastreasons.errors import NotYes
from leastreasons.forms import all_answers, check_form, check_small_form, says
from leastreasons.sheets import (case_of_place, check_case, check_field, check_index, check_sizes, check_small,
                                 place_of_case)


def alike(sizes, one, other):
    """Whether both forms have the same answers."""
    _check_both(sizes, one, other)
    return are_alike(sizes, one, other)


def within(sizes, one, other):
    """Whether the other form says yes wherever the one does."""
    _check_both(sizes, one, other)
    return is_within(sizes, one, other)


def parting_case(sizes, one, other):
    """The least case for which the forms have unlike answers; None if there is none."""
    _check_both(sizes, one, other)
    places = _parted_places(sizes, one, other)
    return case_of_place(sizes, places[0]) if places != [] else None


def count_parted(sizes, one, other):
    """How many cases there are for which the forms have unlike answers."""
    _check_both(sizes, one, other)
    return len(_parted_places(sizes, one, other))


def count_yes(sizes, form):
    """How many cases say yes."""
    check_small_form(sizes, form)
    return len(yes_places(sizes, form))


def nth_yes(sizes, form, index):
    """The case with an index among those that say yes, in ascending order."""
    check_small_form(sizes, form)
    places = yes_places(sizes, form)
    check_index(index, len(places))
    return case_of_place(sizes, places[index])


def yes_index(sizes, form, case):
    """The index of a case among those that say yes, in ascending order."""
    check_sizes(sizes)
    check_form(sizes, form)
    check_case(sizes, case)
    check_small(sizes)
    if not says(sizes, form, case):
        raise NotYes("the answer for the case is no")
    return yes_places(sizes, form).index(place_of_case(sizes, case))


def mattering(sizes, form):
    """The list of the fields that alone can turn in some case."""
    check_small_form(sizes, form)
    swung = _count_swings(sizes, form)
    return [field for field in range(len(sizes)) if swung[field] > 0]


def swings(sizes, form):
    """The list with, for each field, the number of the cases in which it alone can turn."""
    check_small_form(sizes, form)
    return _count_swings(sizes, form)


def rises(sizes, form, field):
    """Whether a greater value of the field, all others unchanged, never turns yes to no."""
    check_sizes(sizes)
    check_form(sizes, form)
    check_field(sizes, field)
    check_small(sizes)
    return not any([_falls(line) for line in _lines_of(sizes, all_answers(sizes, form), field)])


def are_alike(sizes, one, other):
    """Whether both forms have the same answers, for arguments that are checked."""
    return all_answers(sizes, one) == all_answers(sizes, other)


def is_within(sizes, one, other):
    """Whether the other form says yes wherever the one does, for arguments that are checked."""
    first = all_answers(sizes, one)
    second = all_answers(sizes, other)
    return all([second[place] for place in range(len(first)) if first[place]])


def yes_places(sizes, form):
    """The list of the indexes of the cases that say yes, ascending, for arguments that are checked."""
    results = all_answers(sizes, form)
    return [place for place in range(len(results)) if results[place]]


def _check_both(sizes, one, other):
    """Raise the error of the first of these arguments that is wrong, or NotSmall."""
    check_sizes(sizes)
    check_form(sizes, one)
    check_form(sizes, other)
    check_small(sizes)


def _parted_places(sizes, one, other):
    """The list of the indexes of the cases for which the forms have unlike answers, ascending."""
    first = all_answers(sizes, one)
    second = all_answers(sizes, other)
    return [place for place in range(len(first)) if first[place] != second[place]]


def _lines_of(sizes, results, field):
    """The answers for all cases in lists of those whose cases differ in the field alone, its values ascending."""
    step = 1
    for size in sizes[field + 1:]:
        step = step * size
    # Of the cases that begin alike, those that also end alike are so many places apart.
    whole = step * sizes[field]
    return [results[first + at:first + whole:step] for first in range(0, len(results), whole) for at in range(step)]


def _count_swings(sizes, form):
    """For each field the number of the cases in which it alone can turn, for arguments that are checked."""
    results = all_answers(sizes, form)
    swung = []
    for field in range(len(sizes)):
        mixed = [line for line in _lines_of(sizes, results, field) if True in line and False in line]
        swung.append(len(mixed) * sizes[field])
    return swung


def _falls(line):
    """Whether a yes stands ahead of a no somewhere in a list of answers."""
    return True in line and False in line[line.index(True):]
