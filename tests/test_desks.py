"""Promises 22 and 23: desks, compared with a list of all states that a desk had, and with going through all cases."""

import copy
import functools
import itertools
import random
import unittest

from leastreasons.desks import Desk
from leastreasons.errors import (InvalidField, InvalidForm, InvalidSizes, InvalidValue, NothingToUndo, NotSmall)
from tests.brute import least, some_card, some_form, some_forms
from tests.reference import ANY_VALUES, NO, YES, all_cases, all_halves, completes, raises, told
from tests.samples import CARD, OTHER_FORMS, PLAIN_TREES, SIZES, wrong_forms

EXAMPLE_SIZES = [2, 2, 3]
EXAMPLE = ("card", ((0, 2), (0, 1), (0, 1, 2)), 3)
WRONG_FIELDS = [-1, 3, 10 ** 31 - 1, True, False, None, "0", "", [0], (0,), (), [], (0, 1), YES]
# Values that no field of EXAMPLE_SIZES has.
WRONG_VALUES = [-1, 3, 10 ** 31 - 1, 1 - 10 ** 31, True, False, "0", "?", "", [0], (0,), [], (), YES]


@functools.cache
def samples():
    """Pairs of sizes and a form, always the same ones."""
    source = random.Random(26)
    found = [(SIZES, form) for form in [*PLAIN_TREES, *OTHER_FORMS[::3]]]
    for sizes in ([], [2], [6], [2, 2], [3, 2], [4, 2, 3], [2, 2, 2], [2, 2, 3, 2]):
        found += [(sizes, form) for form in [*some_forms(source, sizes, 6), some_card(source, sizes)]]
    return found


def sure_of(sizes, form, half):
    """The answer that all cases that complete a half case have, or None."""
    results = {told(sizes, form, case) for case in all_cases(sizes) if completes(case, half)}
    return results.pop() if len(results) == 1 else None


def subsets(fields):
    """All sets of some fields."""
    return [list(part) for length in range(len(fields) + 1) for part in itertools.combinations(fields, length)]


def reasons_of(sizes, form, half):
    """What makes the answer sure, by trying all sets of known fields; None if it is not sure."""
    if sure_of(sizes, form, half) is None:
        return None
    found = []
    for fields in subsets([field for field, value in enumerate(half) if value is not None]):
        if sure_of(sizes, form, [half[at] if at in fields else None for at in range(len(half))]) is not None:
            found.append(fields)
    return least(found)


def missing_of(sizes, form, half):
    """What can make the answer sure, by trying all values of all sets of unknown fields; None if it is sure."""
    if sure_of(sizes, form, half) is not None:
        return None
    found = []
    for fields in subsets([field for field, value in enumerate(half) if value is None]):
        for values in itertools.product(*[range(sizes[field]) for field in fields]):
            filled = list(half)
            for field, value in zip(fields, values):
                filled[field] = value
            if sure_of(sizes, form, filled) is not None:
                found.append(fields)
                break
    return least(found)


def state(desk):
    """All that can be seen of a desk, but for what follows from its half case and its form."""
    return (desk.half, desk.form, desk.deeds, desk.answer, len(desk))


def undone(desk):
    """All states of a twin of a desk while all deeds are taken back."""
    twin = desk.twin()
    found = [state(twin)]
    while twin.deeds:
        twin.undo()
        found.append(state(twin))
    return found


def filled(sizes, form, half):
    """A desk with a half case."""
    desk = Desk(sizes, form)
    for field, value in enumerate(half):
        if value is not None:
            desk[field] = value
    return desk


def do(desk, deed):
    """Do a deed that is written as for rehearse."""
    if deed[0] == "set":
        desk[deed[1]] = deed[2]
    elif deed[0] == "change":
        desk.change(deed[1])
    else:
        desk.undo()


def some_deed(source, sizes):
    """A deed that raises no error but perhaps NothingToUndo."""
    kind = source.choice(["set", "set", "set", "change", "undo", "undo"] if sizes else ["change", "undo"])
    if kind == "set":
        field = source.randrange(len(sizes))
        return (kind, field, source.choice([None, *range(sizes[field])]))
    return (kind, some_form(source, sizes, 2)) if kind == "change" else (kind,)


class Model:
    """A half case and a form, with those that were there before."""

    def __init__(self, sizes, form):
        self.sizes, self.half, self.form, self.past = sizes, [None] * len(sizes), form, []

    def do(self, deed):
        """Do a deed."""
        if deed[0] == "undo":
            self.half, self.form = self.past.pop()
            return
        self.past.append((self.half, self.form))
        if deed[0] == "set":
            self.half = [*self.half[:deed[1]], deed[2], *self.half[deed[1] + 1:]]
        else:
            self.form = deed[1]

    def state(self):
        """What is seen of a desk."""
        known = [value for value in self.half if value is not None]
        return (self.half, self.form, len(self.past), sure_of(self.sizes, self.form, self.half), len(known))


class MakingTest(unittest.TestCase):
    def test_at_first(self):
        for sizes, form in samples():
            for desk in (Desk(sizes, form), Desk(sizes=sizes, form=form), Desk(form=form, sizes=sizes)):
                unknown = [None] * len(sizes)
                self.assertEqual(state(desk), (unknown, form, 0, sure_of(sizes, form, unknown), 0))
                for field in range(len(sizes)):
                    self.assertIs(desk[field], None)
                    self.assertIs(field in desk, False)
                with self.assertRaises(NothingToUndo):
                    desk.undo()

    def test_errors_and_their_order(self):
        for sizes in (None, (2, 3, 2), [2, 7], [True], "2", [2] * 25):
            for form in (YES, None, ("say", 1)):
                raises(self, InvalidSizes, lambda: Desk(sizes, form))
        for form in [*wrong_forms()[::5], *ANY_VALUES]:
            if form != YES:
                raises(self, InvalidForm, lambda: Desk(SIZES, form))
                raises(self, InvalidForm, lambda: Desk([2] * 3, ("not", form)))
        raises(self, InvalidForm, lambda: Desk([2] * 11, ("say", 1)))
        raises(self, NotSmall, lambda: Desk([2] * 11, YES))
        raises(self, NotSmall, lambda: Desk(sizes=[6] * 24, form=NO))
        self.assertEqual(Desk([2] * 10, YES).half, [None] * 10)

    def test_nothing_that_was_passed_is_kept(self):
        sizes = [2, 2]
        desk = Desk(sizes, YES)
        sizes[0] = 6
        sizes.append(2)
        desk[0] = 1
        self.assertEqual(desk.half, [1, None])
        raises(self, InvalidValue, lambda: desk.__setitem__(0, 5))
        raises(self, InvalidField, lambda: desk.__setitem__(2, 0))

    def test_properties_cannot_be_assigned_and_are_new(self):
        desk = Desk([2, 2], YES)
        desk[1] = 0
        for name in ("half", "form", "answer", "deeds"):
            with self.assertRaises(AttributeError):
                setattr(desk, name, getattr(desk, name))
        half = desk.half
        half[0] = 1
        half.append(7)
        self.assertEqual(desk.half, [None, 0])
        self.assertIsNot(desk.half, desk.half)

    def test_a_desk_is_not_iterated_over(self):
        desk = Desk([2, 2], YES)
        for use in (list, tuple, iter, lambda one: [value for value in one]):
            with self.assertRaises(TypeError):
                use(desk)


class DeedsTest(unittest.TestCase):
    def test_setting_and_forgetting(self):
        desk = Desk(EXAMPLE_SIZES, EXAMPLE)
        desk[2] = 2
        self.assertEqual((desk.half, desk[2], len(desk), desk.deeds), ([None, None, 2], 2, 1, 1))
        self.assertEqual([field in desk for field in range(3)], [False, False, True])
        desk[0] = 0
        self.assertEqual((desk.half, desk[0], len(desk), desk.deeds), ([0, None, 2], 0, 2, 2))
        self.assertIs(0 in desk, True)
        desk[2] = None
        self.assertEqual((desk.half, desk[2], len(desk), desk.deeds), ([0, None, None], None, 1, 3))
        self.assertIs(2 in desk, False)

    def test_setting_to_the_same_value_counts(self):
        desk = Desk(EXAMPLE_SIZES, EXAMPLE)
        desk[1] = None
        desk[1] = 1
        desk[1] = 1
        desk.change(EXAMPLE)
        self.assertEqual(desk.deeds, 4)
        self.assertEqual([(half, deeds) for half, _, deeds, _, _ in undone(desk)],
                         [([None, 1, None], 4), ([None, 1, None], 3), ([None, 1, None], 2), ([None] * 3, 1), ([None] * 3, 0)])

    def test_change(self):
        desk = filled(EXAMPLE_SIZES, EXAMPLE, [1, None, 0])
        desk.change(YES)
        self.assertEqual(state(desk), ([1, None, 0], YES, 3, True, 2))
        desk.change(form=("is", 1, (0,)))
        self.assertEqual(state(desk), ([1, None, 0], ("is", 1, (0,)), 4, None, 2))
        desk.undo()
        self.assertEqual(state(desk), ([1, None, 0], YES, 3, True, 2))
        desk.undo()
        desk.undo()
        self.assertEqual(state(desk), ([1, None, None], EXAMPLE, 1, None, 1))

    def test_any_sequence_of_deeds(self):
        source = random.Random(27)
        for sizes, form in samples():
            desk, model = Desk(sizes, form), Model(sizes, form)
            for _ in range(30):
                deed = some_deed(source, sizes)
                if deed == ("undo",) and not model.past:
                    with self.assertRaises(NothingToUndo):
                        desk.undo()
                else:
                    do(desk, deed)
                    model.do(deed)
                self.assertEqual(state(desk), model.state())
                self.assertEqual([desk[field] for field in range(len(sizes))], model.half)
                self.assertEqual([field in desk for field in range(len(sizes))],
                                 [value is not None for value in model.half])

    def test_many_deeds_are_all_taken_back(self):
        desk = Desk([2] * 10, NO)
        for at in range(500):
            desk[at % 10] = [None, 0, 1][at % 3]
        self.assertEqual(desk.deeds, 500)
        for _ in range(500):
            desk.undo()
        self.assertEqual(state(desk), ([None] * 10, NO, 0, False, 0))
        with self.assertRaises(NothingToUndo):
            desk.undo()

    def test_wrong_fields_and_values(self):
        desk = filled(EXAMPLE_SIZES, EXAMPLE, [1, None, 2])
        before = undone(desk)
        for field in [*WRONG_FIELDS, *ANY_VALUES]:
            if repr(field) not in ("0", "1", "2"):
                for value in (0, None, 9):
                    with self.assertRaises(InvalidField):
                        desk[field] = value
                with self.assertRaises(InvalidField):
                    desk[field]
        for value in [*WRONG_VALUES, *ANY_VALUES]:
            if repr(value) not in ("None", "0", "1"):
                with self.assertRaises(InvalidValue):
                    desk[0] = value
            if repr(value) not in ("None", "0", "1", "2"):
                with self.assertRaises(InvalidValue):
                    desk[2] = value
        with self.assertRaises(InvalidField):
            desk[0:2]
        self.assertEqual(undone(desk), before)

    def test_any_value_in_a_desk(self):
        desk = filled(EXAMPLE_SIZES, EXAMPLE, [1, None, 0])
        for value in [*ANY_VALUES, *WRONG_FIELDS, desk]:
            self.assertIs(value in desk, repr(value) in ("0", "2"))

    def test_wrong_forms(self):
        desk = filled(SIZES, CARD, [1, None, 0])
        before = undone(desk)
        for form in [*wrong_forms()[::3], *ANY_VALUES]:
            if form != YES:
                with self.assertRaises(InvalidForm):
                    desk.change(form)
        self.assertEqual(undone(desk), before)


class SureTest(unittest.TestCase):
    def test_every_half_case(self):
        for sizes, form in samples():
            for half in all_halves(sizes):
                desk = filled(sizes, form, half)
                self.assertIs(desk.answer, sure_of(sizes, form, half))
                self.assertEqual(desk.reasons(), reasons_of(sizes, form, half))
                self.assertEqual(desk.missing(), missing_of(sizes, form, half))
                self.assertEqual(desk.half, half)

    def test_the_example_of_the_document(self):
        desk = filled(EXAMPLE_SIZES, EXAMPLE, [1, 1, 1])
        self.assertEqual((desk.answer, desk.reasons(), desk.missing()), (True, [[0, 1], [0, 2]], None))
        desk[0] = None
        self.assertEqual((desk.answer, desk.reasons(), desk.missing()), (None, None, [[0]]))
        desk[0], desk[1], desk[2] = 1, None, None
        self.assertEqual((desk.answer, desk.reasons(), desk.missing()), (None, None, [[1], [2]]))
        desk[0] = None
        self.assertEqual((desk.answer, desk.reasons(), desk.missing()), (None, None, [[0, 1], [0, 2], [1, 2]]))

    def test_sure_with_no_known_field(self):
        for sizes in ([], [2], SIZES, [2] * 10):
            for form in (YES, NO, ("odd", (YES, YES))):
                self.assertEqual(Desk(sizes, form).reasons(), [[]])
                self.assertIs(Desk(sizes, form).missing(), None)
                self.assertEqual(filled(sizes, form, [0] * len(sizes)).reasons(), [[]])

    def test_ten_fields(self):
        ones = tuple(("is", field, (1,)) for field in range(10))
        desk = Desk([2] * 10, ("and", ones))
        self.assertEqual(desk.missing(), [[field] for field in range(10)])
        desk.change(("odd", ones))
        self.assertEqual(desk.missing(), [list(range(10))])
        desk[3] = 0
        self.assertEqual(desk.missing(), [[0, 1, 2, 4, 5, 6, 7, 8, 9]])
        desk.change(("and", ones))
        self.assertEqual(desk.reasons(), [[3]])
        desk[5] = 0
        self.assertEqual(desk.reasons(), [[3], [5]])
        self.assertIs(desk.missing(), None)

    def test_changed_families_change_nothing(self):
        desk = filled(EXAMPLE_SIZES, EXAMPLE, [1, 1, 1])
        found = desk.reasons()
        found[0].append(7)
        found.pop()
        self.assertEqual(desk.reasons(), [[0, 1], [0, 2]])
        desk[1] = desk[2] = None
        found = desk.missing()
        found[0][0] = 7
        found.reverse()
        self.assertEqual(desk.missing(), [[1], [2]])


class TwinTest(unittest.TestCase):
    def test_each_side_on_its_own(self):
        source = random.Random(28)
        for sizes, form in samples():
            desk, model = Desk(sizes, form), Model(sizes, form)
            for _ in range(6):
                deed = some_deed(source, sizes)
                if deed != ("undo",) or model.past:
                    do(desk, deed)
                    model.do(deed)
            pairs = [(desk, model), (desk.twin(), copy.deepcopy(model))]
            self.assertIs(pairs[1][0].__class__, Desk)
            self.assertEqual(undone(pairs[1][0]), undone(desk))
            for _ in range(20):
                one, its_model = source.choice(pairs)
                deed = some_deed(source, sizes)
                if deed == ("undo",) and not its_model.past:
                    with self.assertRaises(NothingToUndo):
                        one.undo()
                else:
                    do(one, deed)
                    its_model.do(deed)
                for one, its_model in pairs:
                    self.assertEqual(state(one), its_model.state())

    def test_twins_of_twins(self):
        desk = Desk(EXAMPLE_SIZES, EXAMPLE)
        desk[0] = 1
        twin = desk.twin().twin()
        desk.undo()
        twin[1] = 1
        self.assertEqual((desk.half, twin.half), ([None] * 3, [1, 1, None]))
        twin.undo()
        twin.undo()
        self.assertEqual((twin.half, twin.deeds, desk.deeds), ([None] * 3, 0, 0))


if __name__ == "__main__":
    unittest.main()
