"""The shape of forms: which values are forms, and which forms stand in a form."""

from leastreasons.kinds import are_ascending_below, is_integer, is_integer_below
from leastreasons.sheets import is_small_sheet, number_of_cases

JOINING_WORDS = ("and", "or", "odd")
PLAIN_WORDS = ("say", "tree")


def inner_forms(form):
    """The tuple of the forms that stand directly in a form."""
    if form[0] == "tree":
        return form[2]
    if form[0] == "not":
        return (form[1],)
    if form[0] in JOINING_WORDS:
        return form[1]
    return ()


def all_forms(form):
    """The list of the form itself and all forms in it, each one as often as it stands there."""
    found = []
    left = [form]
    while left:
        part = left.pop()
        found.append(part)
        left.extend(inner_forms(part))
    return found


def has_form_shape(sizes, value):
    """Whether any value is a form of the sheet, for sizes that are checked."""
    left = [value]
    while left:
        part = left.pop()
        if not _is_form_outside(sizes, part):
            return False
        left.extend(inner_forms(part))
    return True


def has_plain_tree_shape(sizes, value):
    """Whether any value is a plain tree of the sheet, for sizes that are checked."""
    return has_form_shape(sizes, value) and has_plain_words(value)


def has_plain_words(form):
    """Whether a form is a plain tree."""
    return all([part[0] in PLAIN_WORDS for part in all_forms(form)])


def is_conditions(sizes, value):
    """Whether any value is the conditions of a rule, for sizes that are checked."""
    if not isinstance(value, tuple) or not all([_is_condition(sizes, part) for part in value]):
        return False
    return are_ascending_below([part[0] for part in value], len(sizes))


def _is_form_outside(sizes, value):
    """Whether any value is a form of the sheet, if whatever stands in the place of an inner form is one."""
    if not isinstance(value, tuple) or len(value) == 0 or not isinstance(value[0], str):
        return False
    if len(value) == 2:
        return _is_short_form_outside(sizes, value[0], value[1])
    return len(value) == 3 and _is_long_form_outside(sizes, value[0], value[1], value[2])


def _is_short_form_outside(sizes, word, part):
    """Whether a word and the one part behind it make a form, if its inner forms are forms."""
    if word == "say":
        return isinstance(part, bool)
    if word == "table":
        return _is_results(sizes, part)
    if word == "not":
        return True
    return word in JOINING_WORDS and isinstance(part, tuple)


def _is_long_form_outside(sizes, word, part, second_part):
    """Whether a word and the two parts behind it make a form, if its inner forms are forms."""
    if word == "is":
        return _is_test(sizes, part, second_part)
    if word == "tree":
        return is_integer_below(part, len(sizes)) and _is_tuple_of(second_part, sizes[part])
    if word == "rules":
        return _is_rules(sizes, part) and isinstance(second_part, bool)
    return word == "card" and _is_weights(sizes, part) and is_integer(second_part)


def _is_tuple_of(value, length):
    """Whether any value is a tuple of this length."""
    return isinstance(value, tuple) and len(value) == length


def _is_test(sizes, field, values):
    """Whether any two values are a field and an ascending tuple of its values."""
    if not is_integer_below(field, len(sizes)) or not isinstance(values, tuple):
        return False
    return are_ascending_below(values, sizes[field])


def _is_condition(sizes, value):
    """Whether any value is one condition of a rule."""
    return _is_tuple_of(value, 2) and _is_test(sizes, value[0], value[1])


def _is_rule(sizes, value):
    """Whether any value is a rule."""
    return _is_tuple_of(value, 2) and is_conditions(sizes, value[0]) and isinstance(value[1], bool)


def _is_rules(sizes, value):
    """Whether any value is a tuple of rules."""
    return isinstance(value, tuple) and all([_is_rule(sizes, part) for part in value])


def _is_weights(sizes, value):
    """Whether any value has an integer for each value of each field."""
    if not _is_tuple_of(value, len(sizes)):
        return False
    return all([_is_tuple_of(value[at], sizes[at]) and _are_integers(value[at]) for at in range(len(sizes))])


def _are_integers(values):
    """Whether all of any values are integers."""
    return all([is_integer(value) for value in values])


def _is_results(sizes, value):
    """Whether any value has an answer for each case of a small sheet."""
    if not is_small_sheet(sizes) or not _is_tuple_of(value, number_of_cases(sizes)):
        return False
    return all([isinstance(result, bool) for result in value])
