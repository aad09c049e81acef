"""The definitions of reasons, turns, families, ways and cards, followed by going through all sets and all cases."""

import itertools

from tests.reference import all_cases, all_halves, completes, some_form, told


def sets_below(size):
    """All sets of members below a size, as families are listed: shorter ones first, then ascending."""
    return [list(members) for length in range(size + 1) for members in itertools.combinations(range(size), length)]


def listed(sets):
    """Sets, each once, as families are listed."""
    return sorted([list(members) for members in {tuple(part) for part in sets}], key=lambda part: (len(part), part))


def least(sets):
    """The least sets: no proper subset of them is among the sets."""
    unlike = [frozenset(part) for part in listed(sets)]
    return listed([sorted(part) for part in unlike if not any(other < part for other in unlike)])


def meets(members, family):
    """Whether a set has a member in common with each set of a family."""
    return all(set(members) & set(part) for part in family)


def meeting_sets(size, family):
    """All sets, least or not, that meet each set of a family."""
    return [members for members in sets_below(size) if meets(members, family)]


def most_apart(sets):
    """The greatest number of unlike sets of which no two have a common member."""
    unlike = listed(sets)
    if not unlike:
        return 0
    apart = [part for part in unlike[1:] if not set(part) & set(unlike[0])]
    return max(most_apart(unlike[1:]), 1 + most_apart(apart))


def some_family(source, size, most=8):
    """A family of any sets in any sequence."""
    family = []
    for _ in range(source.randrange(most + 1)):
        chance = source.choice([0.1, 0.3, 0.5, 0.8])
        family.append([member for member in range(size) if source.random() < chance])
    if family and source.random() < 0.3:
        family.append(list(source.choice(family)))
    return family


def changes(sizes, form, case):
    """For each case with the other answer the set of the fields in which it differs."""
    result = told(sizes, form, case)
    others = [other for other in all_cases(sizes) if told(sizes, form, other) != result]
    return [{field for field in range(len(sizes)) if other[field] != case[field]} for other in others]


def forcing_sets(sizes, form, case):
    """All sets of fields that force: no case with the other answer has the same values in all of them."""
    found = changes(sizes, form, case)
    return [fields for fields in sets_below(len(sizes)) if not any(change.isdisjoint(fields) for change in found)]


def turning_sets(sizes, form, case):
    """All sets of fields that can turn: some case with the other answer has the same values in all other ones."""
    found = changes(sizes, form, case)
    return [fields for fields in sets_below(len(sizes)) if any(change <= set(fields) for change in found)]


def left_out(sizes, order, forcing):
    """What remains of all fields if they are left out in this order, each one only if the rest still forces."""
    rest = list(range(len(sizes)))
    for field in order:
        fewer = [other for other in rest if other != field]
        if fewer in forcing:
            rest = fewer
    return rest


def yes_cases(sizes, form):
    """The cases that say yes, ascending."""
    return [case for case in all_cases(sizes) if told(sizes, form, case)]


def some_tree(source, sizes, levels):
    """A plain tree that may test a field twice on a way, and may have equal branches."""
    if levels == 1 or not sizes or source.random() < 0.2:
        return ("say", source.random() < 0.5)
    field = source.randrange(len(sizes))
    branches = [some_tree(source, sizes, levels - 1) for _ in range(sizes[field])]
    if source.random() < 0.2:
        branches = branches[:1] * len(branches)
    return ("tree", field, tuple(branches))


def some_card(source, sizes, greatest=6):
    """A card whose weights may be equal and below 0, with a bound that about half of the cases reach, or any other."""
    weights = []
    for size in sizes:
        row = [source.randrange(-greatest, greatest + 1) for _ in range(size)]
        weights.append(tuple(row[:1] * size if source.random() < 0.15 else row))
    middle = sum(source.choice(row) for row in weights)
    bound = source.choice([middle, middle, middle + 1, source.randrange(-3 * greatest, 3 * greatest + 1)])
    return ("card", tuple(weights), bound)


def some_case(source, sizes):
    """A case."""
    return [source.randrange(size) for size in sizes]


def some_forms(source, sizes, number):
    """Forms of any kind, most of which have both answers."""
    return [some_form(source, sizes, source.randrange(1, 5)) for _ in range(number)]


def primes_tried(sizes, form, result):
    """The prime rules for an answer, found by trying every tuple of conditions with one value each."""
    results = {tuple(case): told(sizes, form, case) for case in all_cases(sizes)}
    forcing = set()
    for half in all_halves(sizes):
        rule = tuple((field, value) for field, value in enumerate(half) if value is not None)
        if {results[tuple(case)] for case in all_cases(sizes) if completes(case, half)} == {result}:
            forcing.add(rule)
    found = [rule for rule in forcing if not any(rule[:at] + rule[at + 1:] in forcing for at in range(len(rule)))]
    return sorted(found, key=lambda rule: (len(rule), rule))


def every_plan(sizes, form, half):
    """All plans that ask for unknown fields until the answer is sure."""
    results = {told(sizes, form, case) for case in all_cases(sizes) if completes(case, half)}
    if len(results) == 1:
        return [("say", *results)]
    found = []
    for field in [field for field, value in enumerate(half) if value is None]:
        behind = [every_plan(sizes, form, [*half[:field], value, *half[field + 1:]]) for value in range(sizes[field])]
        found += [("tree", field, branches) for branches in itertools.product(*behind)]
    return found


def most_asks(plan):
    """How many questions a plan asks in its worst case."""
    return 0 if plan[0] == "say" else 1 + max(most_asks(branch) for branch in plan[2])
