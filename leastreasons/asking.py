"""Asking: what is sure of a case of which only a part is known, and the fewest questions until the answer is sure."""

from leastreasons.errors import NotSmall
from leastreasons.forms import answers_completing, check_answer, check_form
from leastreasons.kinds import ascending_numbers
from leastreasons.rules import find_prime_rules, places_of_rule
from leastreasons.sheets import check_half, check_sizes, check_small, number_of_cases, unknown_fields

MOST_HALVES_OF_ASKABLE = 2500


def sure(sizes, form, half):
    """The answer that all cases that complete the half case have; None if they have both."""
    _check_form_and_half(sizes, form, half)
    check_small(sizes)
    return sure_answer(sizes, form, half)


def outlook(sizes, form, half):
    """The tuple (yes, no) of how many cases that complete the half case have each answer."""
    _check_form_and_half(sizes, form, half)
    check_small(sizes)
    results = answers_completing(sizes, form, half)
    return (results.count(True), results.count(False))


def greatest_reason(sizes, form, result):
    """The greatest length of a shortest reason over all cases with this answer; 0 if there are none."""
    check_sizes(sizes)
    check_form(sizes, form)
    check_answer(result)
    check_small(sizes)
    # The prime rules that fit a case are its reasons with its values, and shorter ones come first.
    seen = [False] * number_of_cases(sizes)
    greatest = 0
    for rule in find_prime_rules(sizes, form, result):
        for place in places_of_rule(sizes, rule):
            if not seen[place]:
                seen[place] = True
                greatest = len(rule)
    return greatest


def fewest_asks(sizes, form, half):
    """The least number of questions that is enough in every case for some plan."""
    _check_form_and_half(sizes, form, half)
    _check_askable(sizes, half)
    _, asks = _tell_asks(_sizes_of_unknown(sizes, half), answers_completing(sizes, form, half))
    return asks[-1]


def first_asks(sizes, form, half):
    """The list of the unknown fields with which a plan with the fewest questions can begin."""
    _check_form_and_half(sizes, form, half)
    _check_askable(sizes, half)
    open_sizes = _sizes_of_unknown(sizes, half)
    unknown = unknown_fields(half)
    _, asks = _tell_asks(open_sizes, answers_completing(sizes, form, half))
    return [unknown[at] for at in _best_asks(open_sizes, asks, len(asks) - 1)]


def ask_plan(sizes, form, half):
    """A plan with the fewest questions as a plain tree, with a form "say" exactly where the answer is sure."""
    _check_form_and_half(sizes, form, half)
    _check_askable(sizes, half)
    open_sizes = _sizes_of_unknown(sizes, half)
    states, asks = _tell_asks(open_sizes, answers_completing(sizes, form, half))
    return _plan_from(unknown_fields(half), open_sizes, states, asks, len(asks) - 1)


def sure_answer(sizes, form, half):
    """The answer that all cases that complete the half case have, or None, for arguments that are checked."""
    return _common_state(answers_completing(sizes, form, half))


def _check_form_and_half(sizes, form, half):
    """Raise the error of the first of these arguments that is wrong."""
    check_sizes(sizes)
    check_form(sizes, form)
    check_half(sizes, half)


def _check_askable(sizes, half):
    """Raise NotSmall unless the sheet is small and the half case askable."""
    check_small(sizes)
    halves = 1
    for size in _sizes_of_unknown(sizes, half):
        halves = halves * (size + 1)
    if halves > MOST_HALVES_OF_ASKABLE:
        raise NotSmall("the product of size + 1 over the unknown fields is more than 2,500")


def _sizes_of_unknown(sizes, half):
    """The sizes of the unknown fields of a half case."""
    return [sizes[field] for field in unknown_fields(half)]


def _common_state(states):
    """The state that all of some states are; None if they differ."""
    return states[0] if states.count(states[0]) == len(states) else None


def _list_states(sizes, results):
    """For each half case of a sheet, by its number, the sure answer or None, if the cases have these results."""
    # In the number of a half case an unknown field counts as having one value more, behind its own values: where
    # more is known, the number is less.
    if sizes == []:
        return results
    step = len(results) // sizes[0]
    parts = [_list_states(sizes[1:], results[at:at + step]) for at in range(0, len(results), step)]
    unknown = [_common_state(states) for states in zip(*parts)]
    return [state for part in [*parts, unknown] for state in part]


def _tell_asks(sizes, results):
    """For each half case of a sheet, by its number, its state and the fewest asks."""
    states = _list_states(sizes, results)
    asks = []
    for number in range(len(states)):
        asks.append(0 if states[number] is not None else _fewest_behind(sizes, asks, number))
    return states, asks


def _fewest_behind(sizes, asks, number):
    """The fewest asks of a half case that is not sure, if those of all half cases with less numbers are told."""
    counts = [_asks_by(sizes, asks, number, at) for at in range(len(sizes))]
    return ascending_numbers([count for count in counts if count is not None])[0]


def _best_asks(sizes, asks, number):
    """The list of the fields with which a plan with the fewest asks can begin; none if the half case is sure."""
    return [at for at in range(len(sizes)) if _asks_by(sizes, asks, number, at) == asks[number]]


def _asks_by(sizes, asks, number, at):
    """The fewest asks of a half case if the field is asked for first; None if it is known."""
    behind = _numbers_behind(sizes, number, at)
    if behind == []:
        return None
    return 1 + ascending_numbers([asks[one] for one in behind])[-1]


def _numbers_behind(sizes, number, at):
    """For each value of a field the number of the half case in which the field has it; none if it is known before."""
    step = 1
    for size in sizes[at + 1:]:
        step = step * (size + 1)
    size = sizes[at]
    if number // step % (size + 1) != size:
        return []
    return [number - (size - value) * step for value in range(size)]


def _plan_from(fields, sizes, states, asks, number):
    """A plan with the fewest asks from a half case on, whose fields stand for these fields."""
    if states[number] is not None:
        return ("say", states[number])
    at = _best_asks(sizes, asks, number)[0]
    branches = [_plan_from(fields, sizes, states, asks, one) for one in _numbers_behind(sizes, number, at)]
    return ("tree", fields[at], tuple(branches))
