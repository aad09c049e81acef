"""Rules: which ones are used or spare, and all shortest rules of a form."""

from leastreasons.errors import InvalidConditions, NoRules
from leastreasons.forms import all_answers, check_answer, check_form, check_small_form, fits
from leastreasons.shapes import is_conditions
from leastreasons.sheets import check_sizes, check_small, list_completing, number_of_cases, place_of_case


def fitting(sizes, conditions):
    """How many cases the conditions of a rule fit."""
    check_sizes(sizes)
    _check_conditions(sizes, conditions)
    check_small(sizes)
    many = number_of_cases(sizes)
    for field, values in conditions:
        many = many // sizes[field] * len(values)
    return many


def used_rules(sizes, rules):
    """The list of the indexes of the rules that are the first one to fit some case."""
    _check_rules(sizes, rules)
    check_small(sizes)
    first = [indexes[0] for indexes in _list_fitting(sizes, rules) if indexes != []]
    return [index for index in range(len(rules[1])) if index in first]


def spare_rules(sizes, rules):
    """The list of the indexes of the rules each of which can be taken out alone without a change of any answer."""
    _check_rules(sizes, rules)
    check_small(sizes)
    spare = [True] * len(rules[1])
    for indexes in _list_fitting(sizes, rules):
        # Only the first rule that fits a case gives its answer; without this rule the next one that fits does.
        if indexes != [] and rules[1][indexes[0]][1] != _result_without_first(rules, indexes):
            spare[indexes[0]] = False
    return [index for index in range(len(spare)) if spare[index]]


def prime_rules(sizes, form, result):
    """The list of the prime rules for an answer, shorter ones first, those of the same length ascending."""
    _check_form_and_answer(sizes, form, result)
    check_small(sizes)
    return find_prime_rules(sizes, form, result)


def needed_rules(sizes, form, result):
    """The list of the prime rules for an answer that are the only one to fit some case."""
    _check_form_and_answer(sizes, form, result)
    check_small(sizes)
    found = find_prime_rules(sizes, form, result)
    fitting_ones = [[] for _ in range(number_of_cases(sizes))]
    for index in range(len(found)):
        for place in places_of_rule(sizes, found[index]):
            fitting_ones[place].append(index)
    only = [indexes[0] for indexes in fitting_ones if len(indexes) == 1]
    return [found[index] for index in range(len(found)) if index in only]


def rules_of(sizes, form):
    """The form "rules" with the prime rules for yes."""
    check_small_form(sizes, form)
    found = find_prime_rules(sizes, form, True)
    return ("rules", tuple([(tuple([(field, (value,)) for field, value in rule]), True) for rule in found]), False)


def find_prime_rules(sizes, form, result):
    """The list of the prime rules for an answer in their sequence, for arguments that are checked."""
    return primes_of_answers(sizes, all_answers(sizes, form), result)


def primes_of_answers(sizes, results, result):
    """The list of the prime rules for an answer in their sequence, if the cases, ascending, have these results."""
    # Those of the same length are found in ascending order, and stay in it.
    return sorted(_find_primes_from(sizes, 0, [told == result for told in results]), key=len)


def places_of_rule(sizes, rule):
    """The list of the indexes of the cases that a prime rule fits, ascending."""
    half = [None] * len(sizes)
    for field, value in rule:
        half[field] = value
    return [place_of_case(sizes, case) for case in list_completing(sizes, half)]


def _check_conditions(sizes, conditions):
    """Raise InvalidConditions unless any value is the conditions of a rule."""
    if not is_conditions(sizes, conditions):
        raise InvalidConditions("conditions are a tuple of tuples of a field and a tuple of values, fields ascending")


def _check_rules(sizes, rules):
    """Raise the error of the first of these arguments that is wrong."""
    check_sizes(sizes)
    check_form(sizes, rules)
    if rules[0] != "rules":
        raise NoRules("the form is not a list of rules")


def _check_form_and_answer(sizes, form, result):
    """Raise the error of the first of these arguments that is wrong."""
    check_sizes(sizes)
    check_form(sizes, form)
    check_answer(result)


def _list_fitting(sizes, rules):
    """For each case, ascending, the list of the indexes of the rules that fit it."""
    cases = list_completing(sizes, [None] * len(sizes))
    return [[index for index in range(len(rules[1])) if fits(rules[1][index][0], case)] for case in cases]


def _result_without_first(rules, indexes):
    """The answer for a case that rules with these indexes fit, if the first one of them is taken out."""
    return rules[1][indexes[1]][1] if len(indexes) > 1 else rules[2]


def _find_primes_from(sizes, field, wanted):
    """The prime rules over the fields from this one on, if wanted tells for each of their cases whether it may fit."""
    if True not in wanted:
        return []
    if False not in wanted:
        return [()]
    step = len(wanted) // sizes[field]
    parts = [wanted[at:at + step] for at in range(0, len(wanted), step)]
    free = _find_primes_from(sizes, field + 1, [False not in both for both in zip(*parts)])
    # A rule for one value that needs no condition on the field is a rule for all values, and found there as well.
    seen = {rule: True for rule in free}
    found = []
    for value in range(sizes[field]):
        rules = _find_primes_from(sizes, field + 1, parts[value])
        found.extend([((field, value), *rule) for rule in rules if rule not in seen])
    return found + free
