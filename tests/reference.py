"""What the tests compare with: the definitions of the document, followed word by word, and values to try."""

import copy
import inspect
import itertools
import random

from leastreasons.console import Console
from leastreasons.deciders import CountingNotingDecider, Decider
from leastreasons.desks import Desk
from leastreasons.errors import InvalidText, ReasonError

YES = ("say", True)
NO = ("say", False)


def nested(kind, depth):
    """A list or a tuple in which others are nested, so many deep."""
    value = kind()
    for _ in range(depth - 1):
        value = kind([value])
    return value


# Values of every kind that may be passed where an error is listed for a parameter.
ANY_VALUES = [
    None, True, False, 0, 1, 2, -1, 10 ** 31 - 1, 1 - 10 ** 31, "", "say", "2", "[2, 2]", [], (), [[]], ((),), [()],
    ([],), [None], [True], [False], ["2"], [0], [1], [2, [2]], [2, None], [2, True], (2, 2), [7], [-2],
    [10 ** 31 - 1], nested(list, 40), nested(tuple, 40), [2] * 100_000, (2,) * 100_000, ReasonError("odd"),
    InvalidText(2), [ReasonError("odd")], (InvalidText(2),), ("say",), ("say", True), ["say", True],
    Console(), Decider([2], YES), CountingNotingDecider([], NO), Desk([2], YES), [Decider([2], YES)], (Desk([2], NO),),
    [Decider([2], NO), 0], [0, Desk([], YES)], ("not", Decider([2], YES)), ("say", Desk([2], YES)), (Decider([2], YES),) * 2,
]


def all_cases(sizes):
    """All cases in ascending order."""
    return [list(case) for case in itertools.product(*[range(size) for size in sizes])]


def all_halves(sizes):
    """All half cases."""
    return [list(half) for half in itertools.product(*[[None, *range(size)] for size in sizes])]


def completes(case, half):
    """Whether a case completes a half case."""
    return all(known is None or known == value for known, value in zip(half, case))


def fits(conditions, case):
    """Whether the conditions of a rule fit a case."""
    return all(case[field] in values for field, values in conditions)


def told(sizes, form, case):
    """The answer of a form, by the definition of each kind of form."""
    kind = form[0]
    if kind == "say":
        return form[1]
    if kind == "is":
        return case[form[1]] in form[2]
    if kind == "tree":
        return told(sizes, form[2][case[form[1]]], case)
    if kind == "rules":
        return next((result for conditions, result in form[1] if fits(conditions, case)), form[2])
    if kind == "card":
        return sum(weights[value] for weights, value in zip(form[1], case)) >= form[2]
    if kind == "table":
        return form[1][all_cases(sizes).index(case)]
    if kind == "not":
        return not told(sizes, form[1], case)
    results = [told(sizes, part, case) for part in form[1]]
    return {"and": all(results), "or": any(results), "odd": sum(results) % 2 == 1}[kind]


def reduced(sizes, form, half, field=0):
    """The ordered tree, from the top to the bottom: a field is tested if two of its values make unlike trees."""
    if field == len(sizes):
        return ("say", told(sizes, form, half))
    if half[field] is not None:
        return reduced(sizes, form, half, field + 1)
    branches = []
    for value in range(sizes[field]):
        branches.append(reduced(sizes, form, [*half[:field], value, *half[field + 1:]], field + 1))
    if all(branch == branches[0] for branch in branches):
        return branches[0]
    return ("tree", field, tuple(branches))


def some_values(source, size):
    """Some of the values of a field, perhaps none."""
    return tuple(value for value in range(size) if source.random() < 0.5)


def some_rule(source, sizes):
    """A rule of any conditions."""
    fields = [field for field in range(len(sizes)) if source.random() < 0.5]
    return (tuple((field, some_values(source, sizes[field])) for field in fields), source.random() < 0.5)


def some_leaf(source, sizes):
    """A form without forms in it."""
    kind = source.choice(["say", "is", "rules", "card", "table"] if sizes else ["say", "rules", "card", "table"])
    if kind == "is":
        field = source.randrange(len(sizes))
        return (kind, field, some_values(source, sizes[field]))
    if kind == "rules":
        return (kind, tuple(some_rule(source, sizes) for _ in range(source.randrange(4))), source.random() < 0.5)
    if kind == "card":
        weights = tuple(tuple(source.randrange(-3, 4) for _ in range(size)) for size in sizes)
        return (kind, weights, source.randrange(-4, 5))
    if kind == "table":
        return (kind, tuple(source.random() < 0.5 for _ in all_cases(sizes)))
    return (kind, source.random() < 0.5)


def some_form(source, sizes, levels):
    """A form of any kind with at most so many levels."""
    if levels == 1 or source.random() < 0.2:
        return some_leaf(source, sizes)
    kind = source.choice(["tree", "not", "and", "or", "odd"] if sizes else ["not", "and", "or", "odd"])
    if kind == "tree":
        field = source.randrange(len(sizes))
        return (kind, field, tuple(some_form(source, sizes, levels - 1) for _ in range(sizes[field])))
    if kind == "not":
        return (kind, some_form(source, sizes, levels - 1))
    return (kind, tuple(some_form(source, sizes, levels - 1) for _ in range(source.randrange(4))))


def sampled_forms():
    """Pairs of sizes and a form on them, always the same ones."""
    source = random.Random(2026)
    sheets = [[], [2], [6], [2, 2, 2], [3, 2], [2, 3, 4], [5, 2, 3], [2, 2, 2, 2, 3]]
    return [(list(sizes), some_form(source, sizes, levels)) for sizes in sheets for levels in (1, 2, 3, 4) * 4]


def called(test, function, *passed):
    """What a call returns, by position and by name alike; the arguments stay as they are."""
    before = copy.deepcopy(passed)
    by_position = function(*passed)
    test.assertEqual(passed, before)
    names = list(inspect.signature(function).parameters)
    by_name = function(**dict(zip(names, passed)))
    test.assertEqual(passed, before)
    test.assertEqual(by_name, by_position)
    return by_position


def refused(test, error, function, *passed):
    """See that a call raises exactly this error, by position and by name."""
    names = list(inspect.signature(function).parameters)
    shown = repr(passed)[:300]
    for call in (lambda: function(*passed), lambda: function(**dict(zip(names, passed)))):
        with test.assertRaises(ReasonError, msg=shown) as caught:
            call()
        test.assertIs(caught.exception.__class__, error, shown)


def raises(test, error, call, *passed, **named):
    """See that a call raises exactly this error, and give it."""
    with test.assertRaises(ReasonError, msg=str(passed)[:300]) as caught:
        call(*passed, **named)
    test.assertIs(caught.exception.__class__, error, str(passed)[:300])
    return caught.exception
