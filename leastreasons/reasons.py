"""Reasons and turns: which fields force the answer for a case, and which can turn it."""

from leastreasons.errors import InvalidCosts, NoReason, NoTurn
from leastreasons.forms import check_form, says
from leastreasons.kinds import is_integer_below
from leastreasons.masks import (family_of, least_masks, mask_of, meeting_masks, meets_each, remaining_members,
                                shortest_length)
from leastreasons.sheets import (check_case, check_fields, check_order, check_sizes, check_small, is_case,
                                 list_completing, unlike_fields)

GREATEST_COST = 1_000_000_000


def forces(sizes, form, case, fields):
    """Whether every case that has the same values in all of these fields has the same answer."""
    _check_form_and_case(sizes, form, case)
    check_fields(sizes, fields)
    check_small(sizes)
    return meets_each(mask_of(len(sizes), fields), turning_masks(sizes, form, case))


def can_turn(sizes, form, case, fields):
    """Whether some case that has the same values in all other fields has the other answer."""
    _check_form_and_case(sizes, form, case)
    check_fields(sizes, fields)
    check_small(sizes)
    return _least_turned(sizes, form, case, fields) is not None


def reasons(sizes, form, case):
    """The family of the least sets of fields that force the answer."""
    _check_form_and_case(sizes, form, case)
    check_small(sizes)
    return find_reasons(sizes, form, case)


def turns(sizes, form, case):
    """The family of the least sets of fields that can turn the answer."""
    _check_form_and_case(sizes, form, case)
    check_small(sizes)
    return find_turns(sizes, form, case)


def needed(sizes, form, case):
    """The list of the fields that are in every reason."""
    _check_form_and_case(sizes, form, case)
    check_small(sizes)
    # A field is in every reason exactly if it alone can turn.
    masks = turning_masks(sizes, form, case)
    return [field for field in range(len(sizes)) if mask_of(len(sizes), [field]) in masks]


def idle(sizes, form, case):
    """The list of the fields that are in no reason."""
    _check_form_and_case(sizes, form, case)
    check_small(sizes)
    # A field is in some reason exactly if it is in some turn.
    least_turns = find_turns(sizes, form, case)
    return [field for field in range(len(sizes)) if not any([field in fields for fields in least_turns])]


def reason_by(sizes, form, case, order):
    """The reason that remains of all fields if they are left out in this order."""
    _check_form_and_case(sizes, form, case)
    check_order(sizes, order)
    check_small(sizes)
    return remaining_members(len(sizes), order, turning_masks(sizes, form, case))


def turned_case(sizes, form, case, fields):
    """The least case with the other answer that has the same values in all other fields; None if there is none."""
    _check_form_and_case(sizes, form, case)
    check_fields(sizes, fields)
    check_small(sizes)
    return _least_turned(sizes, form, case, fields)


def reason_cases(sizes, form, case, fields):
    """For each field of a reason a case that shows that the reason does not force without this field."""
    _check_form_and_case(sizes, form, case)
    check_fields(sizes, fields)
    check_small(sizes)
    masks = turning_masks(sizes, form, case)
    if not meets_each(mask_of(len(sizes), fields), masks):
        raise NoReason("the fields do not force the answer")
    found = [_least_turned(sizes, form, case, _free_without(sizes, fields, field)) for field in fields]
    if None in found:
        raise NoReason("fewer of the fields force the answer")
    return found


def shows_reason(sizes, form, case, fields, value):
    """Whether fields forces, and any value is a list of cases as reason_cases gives it."""
    _check_form_and_case(sizes, form, case)
    check_fields(sizes, fields)
    check_small(sizes)
    if not isinstance(value, list) or len(value) != len(fields):
        return False
    frees = [_free_without(sizes, fields, field) for field in fields]
    if not all([_is_turned(sizes, form, case, frees[at], value[at]) for at in range(len(fields))]):
        return False
    return meets_each(mask_of(len(sizes), fields), turning_masks(sizes, form, case))


def shows_turn(sizes, form, case, value):
    """Whether any value is a case with the other answer that differs exactly in the fields of a turn."""
    _check_form_and_case(sizes, form, case)
    check_small(sizes)
    if not is_case(sizes, value) or says(sizes, form, value) == says(sizes, form, case):
        return False
    return unlike_fields(case, value) in find_turns(sizes, form, case)


def distance(sizes, form, case):
    """The length of a shortest turn; None if there is no turn."""
    _check_form_and_case(sizes, form, case)
    check_small(sizes)
    return shortest_length(len(sizes), turning_masks(sizes, form, case))


def cheapest_reason(sizes, form, case, costs):
    """The tuple of the least sum of costs of a reason, and the first reason with this sum."""
    _check_form_and_case(sizes, form, case)
    _check_costs(sizes, costs)
    check_small(sizes)
    return _cheapest(find_reasons(sizes, form, case), costs)


def cheapest_turn(sizes, form, case, costs):
    """The tuple of the least sum of costs of a turn, and the first turn with this sum."""
    _check_form_and_case(sizes, form, case)
    _check_costs(sizes, costs)
    check_small(sizes)
    family = find_turns(sizes, form, case)
    if family == []:
        raise NoTurn("the answer is the same for all cases")
    return _cheapest(family, costs)


def turning_masks(sizes, form, case):
    """The masks of the fields in which the cases with the other answer differ, each once, for checked arguments."""
    result = says(sizes, form, case)
    others = [other for other in list_completing(sizes, [None] * len(sizes)) if says(sizes, form, other) != result]
    return list({mask_of(len(sizes), unlike_fields(case, other)): True for other in others})


def find_reasons(sizes, form, case):
    """The family of the reasons, for arguments that are checked."""
    # The reasons are exactly the least sets that meet every turn.
    masks = turning_masks(sizes, form, case)
    return family_of(len(sizes), least_masks(meeting_masks(len(sizes), masks)))


def find_turns(sizes, form, case):
    """The family of the turns, for arguments that are checked."""
    return family_of(len(sizes), least_masks(turning_masks(sizes, form, case)))


def _check_form_and_case(sizes, form, case):
    """Raise the error of the first of these arguments that is wrong."""
    check_sizes(sizes)
    check_form(sizes, form)
    check_case(sizes, case)


def _check_costs(sizes, costs):
    """Raise InvalidCosts unless any value is a list with a cost for each field."""
    if not isinstance(costs, list) or len(costs) != len(sizes):
        raise InvalidCosts("costs are a list with an integer for each field")
    if not all([is_integer_below(cost, GREATEST_COST + 1) for cost in costs]):
        raise InvalidCosts("a cost is an integer from 0 to 1,000,000,000")


def _free_without(sizes, fields, field):
    """The list of the fields that may differ if this one is left out of the fields."""
    return [other for other in range(len(sizes)) if other == field or other not in fields]


def _least_turned(sizes, form, case, free):
    """The least case with the other answer that differs in free fields alone; None if there is none."""
    result = says(sizes, form, case)
    half = [None if at in free else case[at] for at in range(len(sizes))]
    for other in list_completing(sizes, half):
        if says(sizes, form, other) != result:
            return other
    return None


def _is_turned(sizes, form, case, free, value):
    """Whether any value is a case with the other answer that differs in free fields alone."""
    if not is_case(sizes, value) or says(sizes, form, value) == says(sizes, form, case):
        return False
    return all([field in free for field in unlike_fields(case, value)])


def _cheapest(family, costs):
    """The tuple (cost, fields) of the first set of a family with the least sum of costs."""
    best = None
    for fields in family:
        cost = sum([costs[field] for field in fields])
        if best is None or cost < best[0]:
            best = (cost, fields)
    return best
