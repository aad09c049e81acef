"""Cards on any sheet: their sums, and why they give an answer."""

from leastreasons.errors import NoCard, NoTurn
from leastreasons.forms import check_form, sum_of_weights
from leastreasons.kinds import ascending_numbers
from leastreasons.sheets import check_case, check_fields, check_index, check_sizes, nth_counted_case


def card_sum(sizes, card, case):
    """The sum of the weights of the values of a case."""
    _check_card_and_case(sizes, card, case)
    return sum_of_weights(card[1], case)


def slack(sizes, card, case):
    """How far the sum may move towards the other answer without a change of the answer."""
    _check_card_and_case(sizes, card, case)
    return _find_slack(card, case)


def drops(sizes, card, case):
    """The list with, for each field, how far its other values can move the sum towards the other answer."""
    _check_card_and_case(sizes, card, case)
    return _list_drops(card, case)


def sum_range(sizes, card):
    """The tuple of the least and the greatest of all sums."""
    check_sizes(sizes)
    check_card(sizes, card)
    return (sum([_least(row) for row in card[1]]), sum([_greatest(row) for row in card[1]]))


def card_forces(sizes, card, case, fields):
    """Whether every case that has the same values in all of these fields has the same answer."""
    _check_card_and_case(sizes, card, case)
    check_fields(sizes, fields)
    found = _list_drops(card, case)
    return sum([found[at] for at in range(len(found)) if at not in fields]) <= _find_slack(card, case)


def shortest_card_reason(sizes, card, case):
    """Of the shortest reasons the first one in ascending order."""
    _check_card_and_case(sizes, card, case)
    return _first_reaching(_list_drops(card, case), _reason_goal(card, case))


def shortest_card_turn(sizes, card, case):
    """Of the shortest turns the first one in ascending order."""
    _check_card_and_case(sizes, card, case)
    found = _list_drops(card, case)
    if sum(found) < _turn_goal(card, case):
        raise NoTurn("the answer is the same for all cases")
    return _first_reaching(found, _turn_goal(card, case))


def count_card_reasons(sizes, card, case):
    """How many reasons there are."""
    _check_card_and_case(sizes, card, case)
    return _count_least_reaching(_list_drops(card, case), _reason_goal(card, case))


def count_card_turns(sizes, card, case):
    """How many turns there are."""
    _check_card_and_case(sizes, card, case)
    return _count_least_reaching(_list_drops(card, case), _turn_goal(card, case))


def count_card_yes(sizes, card):
    """How many cases say yes."""
    check_sizes(sizes)
    check_card(sizes, card)
    return _count_begun(card, _count_tails(card[1]), [])


def nth_card_yes(sizes, card, index):
    """The case with an index among those that say yes, in ascending order."""
    check_sizes(sizes)
    check_card(sizes, card)
    tails = _count_tails(card[1])
    check_index(index, _count_begun(card, tails, []))
    return nth_counted_case(sizes, index, lambda begun: _count_begun(card, tails, begun))


def card_fields(sizes, card):
    """The list of the fields that alone can turn in some case."""
    check_sizes(sizes)
    check_card(sizes, card)
    weights = card[1]
    heads = [ascending_numbers(sums) for sums in _count_tails(weights[::-1])][::-1]
    tails = [ascending_numbers(sums) for sums in _count_tails(weights)]
    found = []
    for field in range(len(sizes)):
        # A field alone can turn if its greatest weight lifts a sum of the others to the bound and its least does not.
        least = card[2] - _greatest(weights[field])
        limit = card[2] - _least(weights[field])
        if _can_add_up(heads[field], tails[field + 1], least, limit):
            found.append(field)
    return found


def lowered(sizes, card):
    """The card with the same answers in which the least weight of each field is 0."""
    check_sizes(sizes)
    check_card(sizes, card)
    weights = tuple([tuple([weight - _least(row) for weight in row]) for row in card[1]])
    return ("card", weights, card[2] - sum([_least(row) for row in card[1]]))


def check_card(sizes, card):
    """Raise InvalidForm or NoCard unless any value is a card of the sheet, for sizes that are checked."""
    check_form(sizes, card)
    if card[0] != "card":
        raise NoCard("the form is not a card")


def _check_card_and_case(sizes, card, case):
    """Raise the error of the first of these arguments that is wrong."""
    check_sizes(sizes)
    check_card(sizes, card)
    check_case(sizes, case)


def _least(row):
    """The least weight of a field."""
    return ascending_numbers(row)[0]


def _greatest(row):
    """The greatest weight of a field."""
    return ascending_numbers(row)[-1]


def _find_slack(card, case):
    """The slack of a case."""
    reached = sum_of_weights(card[1], case)
    return reached - card[2] if reached >= card[2] else card[2] - 1 - reached


def _list_drops(card, case):
    """The list of the drops of a case, by field."""
    weights = card[1]
    if sum_of_weights(weights, case) >= card[2]:
        return [weights[at][case[at]] - _least(weights[at]) for at in range(len(case))]
    return [_greatest(weights[at]) - weights[at][case[at]] for at in range(len(case))]


def _reason_goal(card, case):
    """What the drops of a set of fields must add up to at least, so that it forces."""
    # The drops of the other fields then add up to at most the slack.
    return sum(_list_drops(card, case)) - _find_slack(card, case)


def _turn_goal(card, case):
    """What the drops of a set of fields must add up to at least, so that it can turn."""
    return _find_slack(card, case) + 1


def _first_reaching(numbers, goal):
    """The places of the fewest numbers that reach the goal, the first such list; some numbers must reach it."""
    length = _fewest_reaching(numbers, goal)
    found = []
    missing = goal
    for at in range(len(numbers)):
        left = length - len(found) - 1
        if left >= 0 and numbers[at] + sum(_descending(numbers[at + 1:])[:left]) >= missing:
            found.append(at)
            missing = missing - numbers[at]
    return found


def _fewest_reaching(numbers, goal):
    """The least length of a list of the numbers that reaches the goal; some numbers must reach it."""
    length = 0
    reached = 0
    for number in _descending(numbers):
        if reached < goal:
            reached = reached + number
            length += 1
    return length


def _count_least_reaching(numbers, goal):
    """How many sets of places reach the goal with their numbers, from 0 on, while no proper part does."""
    if goal <= 0:
        return 1
    many = 0
    counts = {0: 1}
    for number in _descending(numbers):
        # Such a set falls short without its least number; in this sequence that is the one that comes last.
        many = many + sum([counts[reached] for reached in counts if reached + number >= goal])
        short = {reached: counts[reached] for reached in counts if reached + number < goal}
        for reached in short:
            counts[reached + number] = counts.get(reached + number, 0) + short[reached]
    return many


def _descending(numbers):
    """The descending list of some integers; equal ones stand side by side."""
    return ascending_numbers(numbers)[::-1]


def _count_tails(weights):
    """For each field, and behind the last one, a dict that tells how many choices from there on have each sum."""
    tails = [{0: 1}]
    for row in weights[::-1]:
        counts = {}
        for reached in tails[-1]:
            for weight in row:
                counts[reached + weight] = counts.get(reached + weight, 0) + tails[-1][reached]
        tails.append(counts)
    return tails[::-1]


def _count_begun(card, tails, begun):
    """How many cases that begin with some values say yes."""
    missing = card[2] - sum_of_weights(card[1], begun)
    counts = tails[len(begun)]
    return sum([counts[reached] for reached in counts if reached >= missing])


def _can_add_up(one_sums, other_sums, least, limit):
    """Whether one of each ascending list add up to at least the least and to less than the limit."""
    at = len(other_sums) - 1
    for reached in one_sums:
        while at >= 0 and reached + other_sums[at] >= limit:
            at = at - 1
        if at >= 0 and reached + other_sums[at] >= least:
            return True
    return False
