"""Forms: what they answer, what stands in them, and the ordered tree of each."""

from leastreasons.errors import InvalidAnswer, InvalidForm
from leastreasons.shapes import JOINING_WORDS, all_forms, has_form_shape, has_plain_tree_shape, inner_forms
from leastreasons.sheets import (check_case, check_half, check_sizes, check_small, list_completing, place_of_case,
                                 unknown_fields)


def is_form(sizes, value):
    """Whether any value is a form of the sheet."""
    check_sizes(sizes)
    return has_form_shape(sizes, value)


def is_plain_tree(sizes, value):
    """Whether any value is a plain tree of the sheet."""
    check_sizes(sizes)
    return has_plain_tree_shape(sizes, value)


def check_form(sizes, form):
    """Raise InvalidForm unless any value is a form of the sheet, for sizes that are checked."""
    if not has_form_shape(sizes, form):
        raise InvalidForm("this is not a form of the sheet")


def check_small_form(sizes, form):
    """Raise the error of the first of these arguments that is wrong, or NotSmall."""
    check_sizes(sizes)
    check_form(sizes, form)
    check_small(sizes)


def check_answer(result):
    """Raise InvalidAnswer unless any value is an answer."""
    if not isinstance(result, bool):
        raise InvalidAnswer("an answer is True or False")


def answer(sizes, form, case):
    """The answer of the form for the case."""
    check_sizes(sizes)
    check_form(sizes, form)
    check_case(sizes, case)
    return says(sizes, form, case)


def answers(sizes, form):
    """The tuple of the answers for all cases, ascending."""
    check_small_form(sizes, form)
    return tuple(all_answers(sizes, form))


def measure(sizes, form):
    """The tuple of how many forms the form consists of and how many levels it has."""
    check_sizes(sizes)
    check_form(sizes, form)
    forms = 0
    levels = 0
    layer = [form]
    while layer:
        forms = forms + len(layer)
        levels += 1
        layer = [inner for part in layer for inner in inner_forms(part)]
    return (forms, levels)


def named_fields(sizes, form):
    """The list of the fields that stand in the form, or of all fields if a card or a table is in it."""
    check_sizes(sizes)
    check_form(sizes, form)
    named = [field for part in all_forms(form) for field in _own_fields(sizes, part)]
    return [field for field in range(len(sizes)) if field in named]


def ordered_tree(sizes, form):
    """The plain tree with the same answers that tests ascending fields, and none without need."""
    check_small_form(sizes, form)
    return ordered_tree_completing(sizes, form, [None] * len(sizes))


def fixed(sizes, form, half):
    """The ordered tree of the form in which the known fields have their values from the half case."""
    check_sizes(sizes)
    check_form(sizes, form)
    check_half(sizes, half)
    check_small(sizes)
    return ordered_tree_completing(sizes, form, half)


def says(sizes, form, case):
    """The answer of the form for the case, for arguments that are checked."""
    if form[0] == "tree":
        return says(sizes, form[2][case[form[1]]], case)
    if form[0] == "not":
        return not says(sizes, form[1], case)
    if form[0] in JOINING_WORDS:
        return _join_answers(form[0], [says(sizes, part, case) for part in form[1]])
    return _says_alone(sizes, form, case)


def fits(conditions, case):
    """Whether the case has one of the values of each condition."""
    return all([case[field] in values for field, values in conditions])


def sum_of_weights(weights, case):
    """The sum of the weights of a card for the values of the case."""
    return sum([weights[at][case[at]] for at in range(len(case))])


def answers_completing(sizes, form, half):
    """The list of the answers for the cases that complete a half case, for arguments that are checked."""
    return [says(sizes, form, case) for case in list_completing(sizes, half)]


def all_answers(sizes, form):
    """The list of the answers for all cases, ascending, for arguments that are checked."""
    return answers_completing(sizes, form, [None] * len(sizes))


def ordered_tree_completing(sizes, form, half):
    """The ordered tree over the unknown fields of a half case, for arguments that are checked."""
    trees = [("say", result) for result in answers_completing(sizes, form, half)]
    # Cases that differ in the last unknown field alone are neighbours; joining them leaves the field before it last.
    for field in unknown_fields(half)[::-1]:
        size = sizes[field]
        trees = [tested(field, tuple(trees[at:at + size])) for at in range(0, len(trees), size)]
    return trees[0]


def tested(field, branches):
    """The tree that tests the field, or its first branch if the test makes no difference."""
    if branches.count(branches[0]) == len(branches):
        return branches[0]
    return ("tree", field, branches)


def _join_answers(word, results):
    """The answer of a form "and", "or" or "odd" whose inner forms give these answers."""
    if word == "and":
        return False not in results
    if word == "or":
        return True in results
    return results.count(True) % 2 == 1


def _says_alone(sizes, form, case):
    """The answer of a form without forms in it."""
    if form[0] == "say":
        return form[1]
    if form[0] == "is":
        return case[form[1]] in form[2]
    if form[0] == "rules":
        return _first_result(form[1], form[2], case)
    if form[0] == "card":
        return sum_of_weights(form[1], case) >= form[2]
    return form[1][place_of_case(sizes, case)]


def _first_result(rules, last, case):
    """The result of the first rule that fits the case, or the last one if none fits."""
    for conditions, result in rules:
        if fits(conditions, case):
            return result
    return last


def _own_fields(sizes, form):
    """The list of the fields that stand in the form itself, not in the forms in it."""
    if form[0] in ("is", "tree"):
        return [form[1]]
    if form[0] == "rules":
        return [condition[0] for rule in form[1] for condition in rule[0]]
    if form[0] in ("card", "table"):
        return list(range(len(sizes)))
    return []
