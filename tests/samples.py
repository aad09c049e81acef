"""Forms to try: valid ones of each kind, and ones with one part wrong."""

from tests.reference import NO, YES

# The sheet of the samples below.
SIZES = [2, 3, 2]

CARD = ("card", ((0, 2), (-1, 0, 1), (5, -50)), 3)
TABLE = ("table", (True, False, False) * 4)
RULES = ("rules", ((((0, (0,)), (1, (0, 2))), True), (((2, (1,)),), False), (((0, (1,)),), True)), False)

PLAIN_TREES = [
    YES,
    NO,
    ("tree", 0, (YES, NO)),
    ("tree", 1, (YES, NO, YES)),
    ("tree", 2, (YES, YES)),
    ("tree", 0, (("tree", 0, (YES, NO)), ("tree", 1, (NO, NO, ("tree", 2, (NO, YES)))))),
    ("tree", 2, (("tree", 1, (("tree", 0, (YES, NO)), NO, YES)), NO)),
]

OTHER_FORMS = [
    ("is", 0, ()),
    ("is", 0, (0,)),
    ("is", 0, (1,)),
    ("is", 1, (0, 1, 2)),
    ("is", 1, (0, 2)),
    ("is", 2, (0, 1)),
    ("rules", (), True),
    ("rules", (), False),
    ("rules", (((), True),), False),
    ("rules", (((), False), ((), True)), True),
    ("rules", ((((1, ()),), True),), False),
    ("rules", ((((0, (0, 1)), (1, (0, 1, 2)), (2, (1,))), True),), False),
    RULES,
    CARD,
    ("card", ((0, 0), (0, 0, 0), (0, 0)), 0),
    ("card", ((50, -50), (50, 0, -50), (-50, 50)), -2000),
    TABLE,
    ("table", (True,) * 12),
    ("not", YES),
    ("not", ("not", ("is", 1, (2,)))),
    ("and", ()),
    ("or", ()),
    ("odd", ()),
    ("and", (YES,)),
    ("or", (NO, ("is", 0, (1,)))),
    ("odd", (CARD, TABLE, RULES, ("not", CARD))),
    ("and", (("or", (YES, NO)), ("odd", (YES, YES)), ("tree", 0, (CARD, TABLE)))),
    ("tree", 0, (YES, ("not", YES))),
    ("tree", 1, (YES, ("is", 0, (1,)), NO)),
    ("tree", 2, (("tree", 0, (YES, CARD)), NO)),
]

# Forms that no limit of use allows, but which are forms by their definition.
BEYOND_LIMITS = [
    ("card", ((51, -51), (10 ** 30, 0, -10 ** 30), (0, 0)), 10 ** 31 - 1),
    ("card", ((0, 0), (0, 0, 0), (0, 0)), -2001),
    ("rules", ((((0, (0,)),), True),) * 300, False),
    ("or", (YES, NO) * 500),
]

WRONG_FIELDS = [-1, 3, 10 ** 31 - 1, True, False, None, "0", "", (0,), [0], ()]
WRONG_VALUES_OF_FIELD_1 = [
    (3,), (-1,), (0, 3), (-1, 0), (1, 0), (0, 0), (0, 1, 1), (0, 2, 1), (0, 1, 2, 3), (True,), (0, True), (False,),
    (None,), ("0",), ((0,),), ([0],), [], [0], 0, None, "0", "", True,
]
WRONG_ANSWERS = [0, 1, None, "yes", "True", "", (), (True,), [True], YES]
WRONG_INTEGERS = [True, False, None, "0", "", (), (0,), [0], [], YES]
WRONG_CONDITIONS = [
    None, True, 0, "", [], [(0, (0,))], (0, (0,)), ((0,),), ((0, (0,), True),), ([0, (0,)],), ((),), (None,),
    ((0, (0,)), (0, (1,))), ((1, (0,)), (0, (0,))), ((0, (0,)), (2, (0,)), (1, (0,))), ((0, (0,)), (1, (0,)), (1, ())),
    (("0", (0,)),), ((0, (0,)), None), ((0, 0),), ((0, [0]),), ((True, (0,)),), ((3, ()),), ((-1, (0,)),), ((0, (2,)),),
]
WRONG_RULES = [
    None, True, 0, "", [], [((), True)], ((), True), (((),),), (((), True, True),), ([(), True],), ((),), (None,),
    (((), True), None), (((), True), ((), 1)),
]
WRONG_BRANCHES = [
    (), (YES,), (YES, NO), (YES, NO, YES, NO), [YES, NO, YES], YES, None, 3, "", (YES, NO, None), (YES, NO, True),
    (True, False, True), (YES, ["say", True], NO), (("say", 1), NO, YES), (YES, NO, ("is", 3, ())),
]
WRONG_WEIGHTS = [
    None, 0, "", (), ((0, 0), (0, 0, 0)), ((0, 0), (0, 0, 0), (0, 0), (0, 0)), ((0, 0, 0), (0, 0), (0, 0)),
    ((0,), (0, 0, 0), (0, 0)), ((0, 0), (0, 0, 0), (0, 0, 0)), ((0, 0), (0, 0, 0), ()), [(0, 0), (0, 0, 0), (0, 0)],
    ((0, 0), [0, 0, 0], (0, 0)), ((0, 0), (0, True, 0), (0, 0)), ((0, 0), (0, None, 0), (0, 0)), (0, 0, 0),
    ((0, 0), (0, 0, "0"), (0, 0)), ((0, 0), (0, 0, 0), None), ((0, (0,)), (0, 0, 0), (0, 0)),
]
WRONG_RESULTS = [
    None, True, 0, "", "y" * 12, (), (True,) * 11, (True,) * 13, [True] * 12, (True,) * 11 + (1,), (0,) * 12,
    (True,) * 5 + (None,) + (True,) * 6, ((True,) * 12,), (True,) * 11 + (YES,),
]
WRONG_FORMS_INSIDE = [None, True, 0, "say", (), [], ["say", True], ("say",), ("say", 1), (YES,), ("is", 3, ()), "yes"]


def misspelt(form):
    """A form with each of some words that are none, in place of its own word."""
    word = form[0]
    words = [word.upper(), word.title(), word + " ", " " + word, word + "s", word[:-1], "", "a", "yes", "zz", "~"]
    return [(other, *form[1:]) for other in [*words, None, True, 0, -1, (), (word,), [word], form]]


def wrong_forms():
    """Values each of which would be a form of SIZES but for one part."""
    found = [wrong for form in [*PLAIN_TREES[:3], *OTHER_FORMS] for wrong in misspelt(form)]
    found += [None, True, False, 0, 1, "", "say", "yes", (), [], ("say",), (True,), (YES,), (YES, NO), ("yes",)]
    found += [["say", True], [*YES], ["and", ()], ("say", True, True), ("say", YES, YES), ("is", 0), ("is", 0, (), ())]
    found += [("tree", 0), ("tree", 0, (YES, NO), YES), ("rules", ()), ("rules", (), True, True), ("card", CARD[1])]
    found += [(*CARD, 0), ("table",), (*TABLE, True), ("not",), ("not", YES, NO), ("and",), ("and", YES, NO)]
    found += [(word, True) for word in ("Say", "yes", "", "say ", "nor", "is", "tree", "rules", "card")]
    found += [(word, (YES,)) for word in ("And", "xor", "", None, True, 0, ("and",), ["and"], YES, "AND", "nand")]
    found += [(word, 0, (YES, NO)) for word in ("Tree", "", None, 0, True, ("tree",), "say", "not", "table", "and")]
    found += [("say", result) for result in WRONG_ANSWERS]
    found += [("is", field, ()) for field in WRONG_FIELDS] + [("is", 1, part) for part in WRONG_VALUES_OF_FIELD_1]
    found += [("is", 0, (2,)), ("is", 2, (1, 2)), ("tree", 0, (YES, NO, YES)), ("tree", 2, (YES, NO, YES))]
    found += [("tree", field, branches) for field in WRONG_FIELDS for branches in ((YES, NO), (YES, NO, YES), ())]
    found += [("tree", 1, branches) for branches in WRONG_BRANCHES]
    found += [("rules", rules, True) for rules in WRONG_RULES]
    found += [("rules", (), last) for last in WRONG_ANSWERS]
    found += [("rules", (((), result),), True) for result in WRONG_ANSWERS]
    found += [("rules", ((conditions, True),), True) for conditions in WRONG_CONDITIONS]
    found += [("rules", ((((field, ()),), True),), True) for field in WRONG_FIELDS]
    found += [("rules", ((((1, part),), True),), True) for part in WRONG_VALUES_OF_FIELD_1]
    found += [("card", weights, 0) for weights in WRONG_WEIGHTS] + [("card", CARD[1], bound) for bound in WRONG_INTEGERS]
    found += [("card", ((weight, 0), (0, 0, 0), (0, 0)), 0) for weight in WRONG_INTEGERS]
    found += [("card", ((0, 0), (0, 0, 0), (0, weight)), 0) for weight in WRONG_INTEGERS]
    found += [("table", results) for results in WRONG_RESULTS]
    found += [("not", inside) for inside in WRONG_FORMS_INSIDE]
    for word in ("and", "or", "odd"):
        found += [(word, forms) for forms in (None, True, 0, "", [], [YES], YES, "say")]
        found += [(word, (inside,)) for inside in WRONG_FORMS_INSIDE]
        found += [(word, (YES, inside, NO)) for inside in WRONG_FORMS_INSIDE]
    return found


def wrapped(form):
    """Forms of SIZES in which a form stands inside, at each place where one can stand."""
    return [
        ("not", form),
        ("and", (form,)),
        ("or", (YES, form)),
        ("odd", (form, NO, YES)),
        ("tree", 0, (form, YES)),
        ("tree", 1, (YES, NO, form)),
        ("not", ("not", form)),
        ("or", (NO, ("tree", 2, (("and", (YES, form)), NO)))),
        ("tree", 1, (NO, ("tree", 0, (NO, ("tree", 2, (YES, form)))), YES)),
        ("odd", (form, form)),
    ]
