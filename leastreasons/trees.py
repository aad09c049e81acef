"""Plain trees on any sheet: their ways, simpler trees with the same answers, and why they give an answer."""

from leastreasons.errors import NoTree
from leastreasons.forms import check_form, says, tested
from leastreasons.masks import family_of, least_masks, mask_of, meets_each, remaining_members
from leastreasons.shapes import has_plain_words
from leastreasons.sheets import check_case, check_fields, check_index, check_order, check_sizes, nth_counted_case


def ways(sizes, tree):
    """The list of the ways of a tree that do not contradict themselves, in the sequence of the tree."""
    check_sizes(sizes)
    check_tree(sizes, tree)
    return [(_conditions_of(half), result) for half, result in _list_ways(sizes, tree)]


def trimmed(sizes, tree):
    """The tree without tests of fields that are tested above, and without tests that make no difference."""
    check_sizes(sizes)
    check_tree(sizes, tree)
    return _trim_below(tree, [None] * len(sizes))


def tree_forces(sizes, tree, case, fields):
    """Whether every case that has the same values in all of these fields has the same answer."""
    _check_tree_and_case(sizes, tree, case)
    check_fields(sizes, fields)
    return meets_each(mask_of(len(sizes), fields), _turning_masks(sizes, tree, case))


def tree_turns(sizes, tree, case):
    """The family of the turns."""
    _check_tree_and_case(sizes, tree, case)
    return family_of(len(sizes), least_masks(_turning_masks(sizes, tree, case)))


def tree_reason(sizes, tree, case, order):
    """The reason that remains of all fields if they are left out in this order."""
    _check_tree_and_case(sizes, tree, case)
    check_order(sizes, order)
    return remaining_members(len(sizes), order, _turning_masks(sizes, tree, case))


def count_tree_yes(sizes, tree):
    """How many cases say yes."""
    check_sizes(sizes)
    check_tree(sizes, tree)
    return _count_begun(sizes, _list_yes_halves(sizes, tree), [])


def nth_tree_yes(sizes, tree, index):
    """The case with an index among those that say yes, in ascending order."""
    check_sizes(sizes)
    check_tree(sizes, tree)
    halves = _list_yes_halves(sizes, tree)
    check_index(index, _count_begun(sizes, halves, []))
    return nth_counted_case(sizes, index, lambda begun: _count_begun(sizes, halves, begun))


def grafted(sizes, tree, upper, lower):
    """The tree with one tree in the place of each yes and another one in the place of each no, trimmed."""
    check_sizes(sizes)
    check_tree(sizes, tree)
    check_tree(sizes, upper)
    check_tree(sizes, lower)
    return _trim_below(_graft_below(tree, upper, lower), [None] * len(sizes))


def check_tree(sizes, tree):
    """Raise InvalidForm or NoTree unless any value is a plain tree of the sheet, for sizes that are checked."""
    check_form(sizes, tree)
    if not has_plain_words(tree):
        raise NoTree("the form is not a plain tree")


def _check_tree_and_case(sizes, tree, case):
    """Raise the error of the first of these arguments that is wrong."""
    check_sizes(sizes)
    check_tree(sizes, tree)
    check_case(sizes, case)


def _list_ways(sizes, tree):
    """The ways that do not contradict themselves, each as a tuple (half, result) with a half case."""
    return _list_ways_below(tree, [None] * len(sizes))


def _list_ways_below(tree, half):
    """The ways through a tree that stands where the fields that are tested above have the values of a half case."""
    if tree[0] == "say":
        return [(half, tree[1])]
    field = tree[1]
    if half[field] is not None:
        return _list_ways_below(tree[2][half[field]], half)
    found = []
    for value in range(len(tree[2])):
        found.extend(_list_ways_below(tree[2][value], _with_value(half, field, value)))
    return found


def _trim_below(tree, half):
    """The trimmed tree in place of one that stands where the fields tested above have the values of a half case."""
    if tree[0] == "say":
        return tree
    field = tree[1]
    branches = tree[2]
    if half[field] is not None:
        return _trim_below(branches[half[field]], half)
    values = range(len(branches))
    return tested(field, tuple([_trim_below(branches[value], _with_value(half, field, value)) for value in values]))


def _graft_below(tree, upper, lower):
    """The tree with upper in the place of each yes and lower in the place of each no."""
    if tree[0] == "say":
        return upper if tree[1] else lower
    return ("tree", tree[1], tuple([_graft_below(branch, upper, lower) for branch in tree[2]]))


def _with_value(half, field, value):
    """A half case like this one, in which the field has the value."""
    return [*half[:field], value, *half[field + 1:]]


def _conditions_of(half):
    """The ascending tuple of the tuples (field, value) of the known fields."""
    return tuple([(field, half[field]) for field in range(len(half)) if half[field] is not None])


def _turning_masks(sizes, tree, case):
    """For each way to the other answer the mask of the fields at which the case differs from it."""
    result = says(sizes, tree, case)
    halves = [half for half, other in _list_ways(sizes, tree) if other != result]
    return [mask_of(len(sizes), _leaving_fields(half, case)) for half in halves]


def _leaving_fields(half, case):
    """The list of the known fields of a half case in which the case has another value."""
    return [field for field in range(len(case)) if half[field] is not None and half[field] != case[field]]


def _list_yes_halves(sizes, tree):
    """The half cases of the ways to yes."""
    return [half for half, result in _list_ways(sizes, tree) if result]


def _count_begun(sizes, halves, begun):
    """How many cases complete one of the half cases, no two of which one case completes, and begin with some values."""
    return sum([_count_completing(sizes, half, begun) for half in halves])


def _count_completing(sizes, half, begun):
    """How many cases complete a half case and begin with some values."""
    number = 1
    for at in range(len(sizes)):
        if at < len(begun):
            if half[at] is not None and half[at] != begun[at]:
                return 0
        elif half[at] is None:
            number = number * sizes[at]
    return number
