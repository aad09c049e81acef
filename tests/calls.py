"""A call of each function of the interface, and wrong values for each argument, each with its error."""

from leastreasons import asking, cards, compare, errors, families, forms, reasons, rules, sheets, texts, trees
from tests.reference import NO, YES

SIZES = [2, 3]
FORM = ("tree", 0, (("is", 1, (0, 2)), YES))
TREE = ("tree", 0, (("tree", 1, (NO, YES, NO)), YES))
CARD = ("card", ((0, 2), (-1, 0, 1)), 1)
RULES = ("rules", ((((0, (0,)), (1, (0, 2))), True), (((1, (1,)),), False), ((), True)), False)

# Sheets of two and of twelve fields have the same wrong values, so that each of these can stand in any call.
WRONG_FORMS = [None, YES[:1], ["say", True], ("say", 1), ("is", 99, ()), ("and", (YES, 0)), "say"]
WRONG_TREES = [(errors.InvalidForm, WRONG_FORMS), (errors.NoTree, [("not", YES), FORM, ("tree", 0, (YES, ("or", ())))])]
WRONG_FAMILIES = [None, ([0],), [(0,)], [0], [[-1]], [[10]], [[0, 0]], [[2, 1]], [[True]], ["0"], [[]] * 301, "[]", 0]
WRONG_CONDITIONS = [
    None, [], [(0, (0,))], (0, (0,)), ((0, (0,)), (0, (1,))), ((1, (0,)), (0, (0,))), ((0, (1, 0)),), ((0, (0, 0)),),
    ((0, (True,)),), ((False, (0,)),), ((12, ()),), ((-1, ()),), ((0, (7,)),), ((0,),), ((0, (0,), True),), ((0, 0),),
    ([0, (0,)],), ((0, [0]),), (((0, (0,)),), True), "", 0, True,
]
WRONG = {
    "sizes": [(errors.InvalidSizes, [None, (2, 3), [2, 7], [2, True], "2", [2] * 25, [[2, 3]]])],
    "form": [(errors.InvalidForm, WRONG_FORMS)],
    "one": [(errors.InvalidForm, WRONG_FORMS)],
    "other": [(errors.InvalidForm, WRONG_FORMS)],
    "tree": WRONG_TREES,
    "upper": WRONG_TREES,
    "lower": WRONG_TREES,
    "card": [(errors.InvalidForm, WRONG_FORMS), (errors.NoCard, [YES, FORM, ("not", YES), ("and", ())])],
    "rules": [(errors.InvalidForm, WRONG_FORMS), (errors.NoRules, [YES, ("not", ("rules", (), True)), ("and", ())])],
    "case": [(errors.InvalidCase, [None, (0, 0), [0], [0, 3, 0], [0, None], [True, 0], [-1, 0], [[0], 0], "00", 0])],
    "second_case": [(errors.InvalidCase, [None, (1, 1), [], [0, "0"], [0, None], [0, False], [0, -1], [2, 0], 1])],
    "half": [(errors.InvalidHalf, [None, (None, 0), [None], [None] * 3, [0, False], [None, -1], ["?", 0], [6, 0], 0])],
    "field": [(errors.InvalidField, [None, -1, 12, 10 ** 31 - 1, True, False, "0", [0], (0,), ()])],
    "fields": [(errors.InvalidFields, [None, (0,), [1, 0], [0, 0], [-1], [12], [True], [0, None], ["0"], [[0]], "0", 0])],
    "order": [(errors.InvalidFields, [None, (0, 1), [], [0], [0, 0], [0, True], [-1, 0], [1, 2, 0], [[0], 1], "01", 0])],
    "costs": [(errors.InvalidCosts, [None, (1, 1), [1], [0, -1], [0, 10 ** 9 + 1], [0, True], [None, 0], [[0], 0], "00"])],
    "result": [(errors.InvalidAnswer, [None, 0, 1, "True", "yes", (True,), [False], YES])],
    "conditions": [(errors.InvalidConditions, WRONG_CONDITIONS)],
    "index": [(errors.InvalidIndex, [None, -1, 10 ** 31 - 1, True, False, "0", [0], (0,)])],
    "size": [(errors.InvalidIndex, [None, -1, 11, 10 ** 31 - 1, True, False, "3", [3], (3,)])],
    "family": [(errors.InvalidFamily, WRONG_FAMILIES)],
    "one_family": [(errors.InvalidFamily, WRONG_FAMILIES)],
    "other_family": [(errors.InvalidFamily, WRONG_FAMILIES)],
    "members": [(errors.InvalidMembers, [None, (0,), [1, 0], [0, 0], [-1], [10], [True], [None], ["0"], [[0]], "0", 0])],
}

# Values of every kind that are right for an argument after all, on the sheet SIZES and for sets below 3.
RIGHT = {
    "sizes": [[]],
    "form": [YES],
    "tree": [YES],
    "upper": [YES],
    "lower": [YES],
    "one": [YES],
    "other": [YES],
    "field": [0, 1],
    "fields": [[], [0], [1]],
    "result": [True, False],
    "conditions": [()],
    "index": [0, 1, 2],
    "size": [0, 1, 2],
    "family": [[], [[]]],
    "one_family": [[], [[]]],
    "other_family": [[], [[]]],
    "members": [[], [0], [1]],
}

# Each function with the names of its arguments that have an error, right arguments on SIZES and on a sheet that is not
# small, and whether it needs a small one.
BIG_SIZES = [2] * 12
BIG_FORM = ("or", (("is", 11, (1,)), ("tree", 0, (NO, YES))))
BIG_TREE = ("tree", 11, (("tree", 3, (NO, ("tree", 0, (NO, YES)))), YES))
BIG_CARD = ("card", ((0, 1), (2, -2), (3, 3)) * 4, 12)
BIG_RULES = ("rules", ((((0, (0,)), (11, (0, 1))), True), (((1, (1,)),), False), ((), True)), False)
BIG_ORDER = [*range(5, 12), *range(5)]
ANY_SHEET = False
SMALL_SHEET = True
OF_SHEETS = [
    (sheets.count_cases, ["sizes"], [SIZES], [BIG_SIZES], ANY_SHEET),
    (sheets.is_small, ["sizes"], [SIZES], [BIG_SIZES], ANY_SHEET),
    (sheets.nth_case, ["sizes", "index"], [SIZES, 5], [BIG_SIZES, 4095], ANY_SHEET),
    (sheets.case_index, ["sizes", "case"], [SIZES, [1, 2]], [BIG_SIZES, [1] * 12], ANY_SHEET),
    (sheets.completing, ["sizes", "half"], [SIZES, [None, 2]], [BIG_SIZES, [None] * 12], SMALL_SHEET),
    (sheets.differing, ["sizes", "case", "second_case"], [SIZES, [1, 2], [0, 2]],
     [BIG_SIZES, [0] * 12, [1] * 12], ANY_SHEET),
]
OF_FORMS = [
    (forms.is_form, ["sizes"], [SIZES, FORM], [BIG_SIZES, BIG_FORM], ANY_SHEET),
    (forms.is_plain_tree, ["sizes"], [SIZES, FORM], [BIG_SIZES, BIG_FORM], ANY_SHEET),
    (forms.answer, ["sizes", "form", "case"], [SIZES, FORM, [0, 2]], [BIG_SIZES, BIG_FORM, [0] * 12], ANY_SHEET),
    (forms.answers, ["sizes", "form"], [SIZES, FORM], [BIG_SIZES, BIG_FORM], SMALL_SHEET),
    (forms.measure, ["sizes", "form"], [SIZES, FORM], [BIG_SIZES, BIG_FORM], ANY_SHEET),
    (forms.named_fields, ["sizes", "form"], [SIZES, FORM], [BIG_SIZES, BIG_FORM], ANY_SHEET),
    (forms.ordered_tree, ["sizes", "form"], [SIZES, FORM], [BIG_SIZES, BIG_FORM], SMALL_SHEET),
    (forms.fixed, ["sizes", "form", "half"], [SIZES, FORM, [None, 2]], [BIG_SIZES, BIG_FORM, [0] * 12], SMALL_SHEET),
]


def with_form_and_case(function, name="", small=(), big=(), more=()):
    """A call of a function of a form and a case, perhaps with one further argument with an error, and with others."""
    names = ["sizes", "form", "case", name] if name else ["sizes", "form", "case"]
    of_big = [BIG_SIZES, BIG_FORM, [0] * 12, *big, *more]
    return (function, names, [SIZES, FORM, [0, 2], *small, *more], of_big, SMALL_SHEET)


OF_REASONS = [
    with_form_and_case(reasons.forces, "fields", [[0]], [[0, 11]]),
    with_form_and_case(reasons.can_turn, "fields", [[1]], [[0, 11]]),
    with_form_and_case(reasons.reasons),
    with_form_and_case(reasons.turns),
    with_form_and_case(reasons.needed),
    with_form_and_case(reasons.idle),
    with_form_and_case(reasons.reason_by, "order", [[1, 0]], [BIG_ORDER]),
    with_form_and_case(reasons.turned_case, "fields", [[0, 1]], [[0, 11]]),
    with_form_and_case(reasons.reason_cases, "fields", [[1]], [[0, 11]]),
    with_form_and_case(reasons.shows_reason, "fields", [[1]], [[0, 11]], [[[0, 1]]]),
    with_form_and_case(reasons.shows_turn, more=[[0, 1]]),
    with_form_and_case(reasons.distance),
    with_form_and_case(reasons.cheapest_reason, "costs", [[3, 0]], [[1] * 12]),
    with_form_and_case(reasons.cheapest_turn, "costs", [[3, 10 ** 9]], [[1] * 12]),
]


def with_family(function, name="", part=()):
    """A call of a function of a family, perhaps with one further argument."""
    names = ["size", "family", name] if name else ["size", "family"]
    if name == "other_family":
        names[1] = "one_family"
    return (function, names, [3, [[0, 1], [2]], *part], [10, [[9], [0, 8], [9]], *part], ANY_SHEET)


OF_FAMILIES = [
    with_family(families.least_sets),
    with_family(families.meeting),
    with_family(families.meets_all, "members", [[0, 2]]),
    with_family(families.joined, "other_family", [[[1], [0, 2]]]),
    with_family(families.paired, "other_family", [[[1], [0, 2]]]),
    with_family(families.dropped, "members", [[2]]),
    with_family(families.taken, "members", [[1]]),
    with_family(families.in_some),
    with_family(families.in_all),
    with_family(families.count_meeting),
    with_family(families.shortest_meeting),
    with_family(families.apart),
]


def with_tree(function, names=(), small=(), big=()):
    """A call of a function of a tree."""
    return (function, ["sizes", "tree", *names], [SIZES, TREE, *small], [BIG_SIZES, BIG_TREE, *big], ANY_SHEET)


OF_TREES = [
    with_tree(trees.ways),
    with_tree(trees.trimmed),
    with_tree(trees.tree_forces, ["case", "fields"], [[0, 2], [0]], [[0] * 12, [0, 11]]),
    with_tree(trees.tree_turns, ["case"], [[0, 2]], [[0] * 12]),
    with_tree(trees.tree_reason, ["case", "order"], [[0, 2], [1, 0]], [[0] * 12, BIG_ORDER]),
    with_tree(trees.count_tree_yes),
    with_tree(trees.nth_tree_yes, ["index"], [3], [2100]),
    with_tree(trees.grafted, ["upper", "lower"], [NO, TREE], [BIG_TREE, YES]),
]


def with_card(function, names=(), small=(), big=()):
    """A call of a function of a card."""
    return (function, ["sizes", "card", *names], [SIZES, CARD, *small], [BIG_SIZES, BIG_CARD, *big], ANY_SHEET)


OF_CARDS = [
    with_card(cards.card_sum, ["case"], [[1, 0]], [[0] * 12]),
    with_card(cards.slack, ["case"], [[1, 0]], [[0] * 12]),
    with_card(cards.drops, ["case"], [[1, 0]], [[0] * 12]),
    with_card(cards.sum_range),
    with_card(cards.card_forces, ["case", "fields"], [[1, 0], [0]], [[0] * 12, [0, 11]]),
    with_card(cards.shortest_card_reason, ["case"], [[1, 0]], [[0] * 12]),
    with_card(cards.shortest_card_turn, ["case"], [[1, 0]], [[0] * 12]),
    with_card(cards.count_card_reasons, ["case"], [[1, 0]], [[0] * 12]),
    with_card(cards.count_card_turns, ["case"], [[1, 0]], [[0] * 12]),
    with_card(cards.count_card_yes),
    with_card(cards.nth_card_yes, ["index"], [2], [100]),
    with_card(cards.card_fields),
    with_card(cards.lowered),
]

OF_RULES = [
    (rules.fitting, ["sizes", "conditions"], [SIZES, ((0, (1,)), (1, (0, 2)))], [BIG_SIZES, ((11, ()),)], SMALL_SHEET),
    (rules.used_rules, ["sizes", "rules"], [SIZES, RULES], [BIG_SIZES, BIG_RULES], SMALL_SHEET),
    (rules.spare_rules, ["sizes", "rules"], [SIZES, RULES], [BIG_SIZES, BIG_RULES], SMALL_SHEET),
    (rules.prime_rules, ["sizes", "form", "result"], [SIZES, FORM, False], [BIG_SIZES, BIG_FORM, True], SMALL_SHEET),
    (rules.needed_rules, ["sizes", "form", "result"], [SIZES, FORM, True], [BIG_SIZES, BIG_FORM, False], SMALL_SHEET),
    (rules.rules_of, ["sizes", "form"], [SIZES, FORM], [BIG_SIZES, BIG_FORM], SMALL_SHEET),
]


def with_form_and_half(function):
    """A call of a function of a form and a half case."""
    return (function, ["sizes", "form", "half"], [SIZES, FORM, [0, None]], [BIG_SIZES, BIG_FORM, [0] * 12], SMALL_SHEET)


OF_ASKING = [
    with_form_and_half(asking.sure),
    with_form_and_half(asking.outlook),
    (asking.greatest_reason, ["sizes", "form", "result"], [SIZES, FORM, True], [BIG_SIZES, BIG_FORM, False],
     SMALL_SHEET),
    with_form_and_half(asking.fewest_asks),
    with_form_and_half(asking.first_asks),
    with_form_and_half(asking.ask_plan),
]


def with_two_forms(function):
    """A call of a function of two forms."""
    return (function, ["sizes", "one", "other"], [SIZES, FORM, TREE], [BIG_SIZES, BIG_FORM, BIG_TREE], SMALL_SHEET)


OF_COMPARE = [
    with_two_forms(compare.alike),
    with_two_forms(compare.within),
    with_two_forms(compare.parting_case),
    with_two_forms(compare.count_parted),
    (compare.count_yes, ["sizes", "form"], [SIZES, FORM], [BIG_SIZES, BIG_FORM], SMALL_SHEET),
    (compare.nth_yes, ["sizes", "form", "index"], [SIZES, FORM, 4], [BIG_SIZES, BIG_FORM, 0], SMALL_SHEET),
    (compare.yes_index, ["sizes", "form", "case"], [SIZES, FORM, [0, 2]], [BIG_SIZES, BIG_FORM, [1] * 12], SMALL_SHEET),
    (compare.mattering, ["sizes", "form"], [SIZES, FORM], [BIG_SIZES, BIG_FORM], SMALL_SHEET),
    (compare.swings, ["sizes", "form"], [SIZES, FORM], [BIG_SIZES, BIG_FORM], SMALL_SHEET),
    (compare.rises, ["sizes", "form", "field"], [SIZES, FORM, 1], [BIG_SIZES, BIG_FORM, 11], SMALL_SHEET),
]

BIG_CASE_TEXT = "0 1 ? 1 0 1 ? ? 0 0 1 1"
OF_TEXTS = [
    (texts.write_form, ["sizes", "form"], [SIZES, FORM], [BIG_SIZES, BIG_FORM], ANY_SHEET),
    (texts.read_form, ["sizes"], [SIZES, "not is 1 0,2"], [BIG_SIZES, "is 11 -"], ANY_SHEET),
    (texts.write_case, ["sizes", "half"], [SIZES, [None, 2]], [BIG_SIZES, [None] * 12], ANY_SHEET),
    (texts.read_case, ["sizes"], [SIZES, "? 2"], [BIG_SIZES, BIG_CASE_TEXT], ANY_SHEET),
]

FUNCTIONS = [
    *OF_SHEETS, *OF_FORMS, *OF_REASONS, *OF_FAMILIES, *OF_TREES, *OF_CARDS, *OF_RULES, *OF_ASKING, *OF_COMPARE,
    *OF_TEXTS,
]
