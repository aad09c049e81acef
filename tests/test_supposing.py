"""Promise 23: blocks of supposing, trial and rehearse, behind which a desk is as it was before."""

import random
import unittest

from leastreasons.desks import Desk
from leastreasons.errors import InvalidField, InvalidForm, InvalidValue, NothingToUndo, ReasonError
from tests.reference import NO, YES
from tests.test_desks import (EXAMPLE, EXAMPLE_SIZES, WRONG_FIELDS, WRONG_VALUES, Model, do, filled, samples, some_deed,
                              state, sure_of, undone)

ODD = ("odd", (("is", 0, (1,)), ("is", 1, (1,)), ("is", 2, (1,))))


class Broken(Exception):
    """An error that no desk raises."""


def begun():
    """A desk with five deeds, of which one forgets a value."""
    desk = filled(EXAMPLE_SIZES, NO, [1, None, 0])
    desk.change(EXAMPLE)
    desk[2] = None
    desk[0] = 1
    return desk


class BlocksTest(unittest.TestCase):
    def test_a_block(self):
        desk = begun()
        before = undone(desk)
        supposed = desk.supposing(field=1, value=1)
        self.assertEqual(undone(desk), before)
        with supposed as held:
            self.assertIs(held, desk)
            self.assertEqual(state(desk), ([1, 1, None], EXAMPLE, 5, True, 2))
            self.assertEqual((desk[1], 1 in desk), (1, True))
            self.assertEqual((desk.reasons(), desk.missing()), ([[0, 1]], None))
        self.assertEqual(undone(desk), before)

    def test_to_forget_and_to_suppose_the_same_value(self):
        desk = begun()
        before = undone(desk)
        with desk.supposing(field=0, value=None):
            self.assertEqual((desk.half, desk.deeds, len(desk)), ([None] * 3, 5, 0))
        with desk.supposing(value=1, field=0):
            self.assertEqual((desk.half, desk.deeds, len(desk)), ([1, None, None], 5, 1))
            with self.assertRaises(NothingToUndo):
                desk.undo()
        self.assertEqual(undone(desk), before)

    def test_deeds_inside(self):
        desk = begun()
        before = undone(desk)
        with desk.supposing(field=1, value=1):
            desk[2] = 2
            desk.change(ODD)
            desk[1] = 0
            self.assertEqual(state(desk), ([1, 0, 2], ODD, 8, True, 3))
            desk.undo()
            self.assertEqual(state(desk), ([1, 1, 2], ODD, 7, False, 3))
            desk.undo()
            desk.undo()
            self.assertEqual(state(desk), ([1, 1, None], EXAMPLE, 5, True, 2))
            with self.assertRaises(NothingToUndo):
                desk.undo()
            self.assertEqual(state(desk), ([1, 1, None], EXAMPLE, 5, True, 2))
            desk[0] = 0
            desk.change(YES)
        self.assertEqual(undone(desk), before)

    def test_a_block_that_is_left_by_an_error(self):
        desk = begun()
        before = undone(desk)
        for error, wrong in ((InvalidValue, lambda: desk.__setitem__(0, 2)), (InvalidForm, lambda: desk.change(("yes",))),
                             (InvalidField, lambda: desk[3]), (ZeroDivisionError, lambda: 1 // 0)):
            with self.assertRaises(error):
                with desk.supposing(field=2, value=2):
                    desk[1] = 0
                    desk.change(ODD)
                    wrong()
            self.assertEqual(undone(desk), before)
        with self.assertRaises(Broken):
            with desk.supposing(field=2, value=2), desk.supposing(field=2, value=1):
                raise Broken
        self.assertEqual(undone(desk), before)

    def test_a_block_that_is_left_by_return_and_break(self):
        desk = begun()
        before = undone(desk)

        def leave():
            with desk.supposing(field=2, value=2):
                desk[1] = 0
                return desk.half

        self.assertEqual(leave(), [1, 0, 2])
        for value in range(3):
            with desk.supposing(field=2, value=value):
                desk.change(ODD)
                if value == 1:
                    break
        self.assertEqual(undone(desk), before)

    def test_nested_blocks(self):
        desk = begun()
        before = undone(desk)
        with desk.supposing(field=1, value=1):
            desk[2] = 2
            outside = state(desk)
            with desk.supposing(field=2, value=0) as held:
                self.assertIs(held, desk)
                self.assertEqual(state(desk), ([1, 1, 0], EXAMPLE, 6, True, 3))
                with self.assertRaises(NothingToUndo):
                    desk.undo()
                desk[0] = None
                with desk.supposing(field=0, value=0):
                    self.assertEqual(state(desk), ([0, 1, 0], EXAMPLE, 7, False, 3))
                    with self.assertRaises(NothingToUndo):
                        desk.undo()
                self.assertEqual(desk.half, [None, 1, 0])
                desk.undo()
                with self.assertRaises(NothingToUndo):
                    desk.undo()
                self.assertEqual(desk.half, [1, 1, 0])
                desk[1] = 0
            self.assertEqual(state(desk), outside)
            desk.undo()
            self.assertEqual(desk.half, [1, 1, None])
            with self.assertRaises(NothingToUndo):
                desk.undo()
        self.assertEqual(undone(desk), before)

    def test_the_block_begins_behind_the_call(self):
        desk = begun()
        first, second = desk.supposing(field=1, value=1), desk.supposing(field=1, value=0)
        desk[2] = 1
        desk.change(ODD)
        before = undone(desk)
        with second:
            self.assertEqual(state(desk), ([1, 0, 1], ODD, 7, False, 3))
        self.assertEqual(undone(desk), before)
        desk.undo()
        with first:
            self.assertEqual(state(desk), ([1, 1, 1], EXAMPLE, 6, True, 3))

    def test_errors_are_raised_by_the_call(self):
        desk = begun()
        before = undone(desk)
        for field in WRONG_FIELDS:
            for value in (0, None, 9, "0"):
                with self.assertRaises(InvalidField):
                    desk.supposing(field=field, value=value)
        for value in [*WRONG_VALUES, 2]:
            with self.assertRaises(InvalidValue):
                desk.supposing(field=0, value=value)
        with self.assertRaises(TypeError):
            desk.supposing(0, 1)
        self.assertEqual(undone(desk), before)

    def test_a_twin_that_is_made_inside(self):
        desk = begun()
        before = undone(desk)
        with desk.supposing(field=1, value=1):
            desk[2] = 2
            with desk.supposing(field=0, value=0):
                desk.change(ODD)
                twin = desk.twin()
                self.assertEqual(state(twin), state(desk))
                twin[0] = 1
                self.assertEqual((desk.half, desk.deeds), ([0, 1, 2], 7))
                desk[1] = 0
                self.assertEqual((twin.half, twin.deeds), ([1, 1, 2], 8))
        self.assertEqual(undone(desk), before)
        self.assertEqual((twin.half, twin.form, twin.deeds), ([1, 1, 2], ODD, 8))
        for deeds in range(7, -1, -1):
            twin.undo()
            self.assertEqual(twin.deeds, deeds)
        self.assertEqual(twin.form, NO)
        with self.assertRaises(NothingToUndo):
            twin.undo()
        self.assertEqual(undone(desk), before)

    def test_a_twin_that_was_made_before_stays_outside(self):
        desk = begun()
        twin = desk.twin()
        with desk.supposing(field=1, value=1):
            self.assertEqual(twin.half, [1, None, None])
            with twin.supposing(field=2, value=2):
                self.assertEqual((desk.half, twin.half), ([1, 1, None], [1, None, 2]))
            twin.undo()
            self.assertEqual(twin.deeds, 4)
            with self.assertRaises(NothingToUndo):
                desk.undo()

    def test_any_sequence_of_deeds_and_blocks(self):
        source = random.Random(29)
        for sizes, form in samples():
            if sizes:
                desk, model = Desk(sizes, form), Model(sizes, form)
                self.go_on(source, desk, model, 3)

    def go_on(self, source, desk, model, depth):
        """Do some deeds, some of them inside of blocks."""
        kept = len(model.past)
        for _ in range(8):
            if depth and source.random() < 0.25:
                field = source.randrange(len(model.sizes))
                value = source.choice([None, *range(model.sizes[field])])
                before = undone(desk)
                inner = Model(model.sizes, model.form)
                inner.half = [*model.half[:field], value, *model.half[field + 1:]]
                inner.past = list(model.past)
                with desk.supposing(field=field, value=value):
                    self.assertEqual(state(desk), inner.state())
                    self.go_on(source, desk, inner, depth - 1)
                self.assertEqual(undone(desk), before)
            deed = some_deed(source, model.sizes)
            if deed == ("undo",) and len(model.past) == kept:
                with self.assertRaises(NothingToUndo):
                    desk.undo()
            else:
                do(desk, deed)
                model.do(deed)
            self.assertEqual(state(desk), model.state())


class TrialTest(unittest.TestCase):
    def test_some_pairs(self):
        desk = begun()
        before = undone(desk)
        self.assertEqual(desk.trial([]), [])
        self.assertEqual(desk.trial([(1, 1)]), [True])
        self.assertEqual(desk.trial([(1, 1), (0, 0), (2, 2), (2, None), (0, None)]), [True, None, True, None, None])
        self.assertEqual(desk.trial(pairs=[(2, 0), (1, 0)]), [None, False])
        self.assertEqual(undone(desk), before)

    def test_compared_with_filling_half_cases(self):
        source = random.Random(30)
        for sizes, form in samples():
            desk, model = Desk(sizes, form), Model(sizes, form)
            for _ in range(4):
                deed = some_deed(source, sizes)
                if deed[0] != "undo":
                    do(desk, deed)
                    model.do(deed)
            for many in range(9 if sizes else 1):
                before, pairs, expected, half = undone(desk), [], [], list(model.half)
                for _ in range(many):
                    field = source.randrange(len(sizes))
                    half[field] = source.choice([None, *range(sizes[field])])
                    pairs.append((field, half[field]))
                    expected.append(sure_of(sizes, model.form, half))
                passed = list(pairs)
                self.assertEqual(desk.trial(pairs), expected)
                self.assertEqual(pairs, passed)
                self.assertEqual(undone(desk), before)

    def test_a_pair_in_the_middle_that_is_wrong(self):
        desk = begun()
        before = undone(desk)
        good = [(1, 1), (2, 2), (0, 0)]
        for at in range(4):
            for field in WRONG_FIELDS:
                with self.assertRaises(InvalidField):
                    desk.trial([*good[:at], (field, 7), *good[at:]])
            for value in WRONG_VALUES:
                with self.assertRaises(InvalidValue):
                    desk.trial([*good[:at], (2, value), *good[at:], (9, 9)])
            self.assertEqual(undone(desk), before)

    def test_inside_of_a_block(self):
        desk = begun()
        with desk.supposing(field=1, value=1):
            desk[2] = 0
            before = state(desk)
            self.assertEqual(desk.trial([(0, 0), (2, 2)]), [False, True])
            with self.assertRaises(InvalidValue):
                desk.trial([(0, 0), (2, 3)])
            self.assertEqual(state(desk), before)
            desk.undo()
            with self.assertRaises(NothingToUndo):
                desk.undo()


class RehearseTest(unittest.TestCase):
    def test_some_deeds(self):
        desk = begun()
        before = undone(desk)
        self.assertEqual(desk.rehearse(field=1, value=1, deeds=[]), [])
        deeds = [("set", 0, 0), ("set", 1, None), ("undo",), ("change", ODD), ("set", 2, 1), ("undo",), ("undo",), ("undo",)]
        expected = [([0, 1, None], 6, None), ([0, None, None], 7, None), ([0, 1, None], 6, None), ([0, 1, None], 7, None),
                    ([0, 1, 1], 8, False), ([0, 1, None], 7, None), ([0, 1, None], 6, None), ([1, 1, None], 5, True)]
        self.assertEqual(desk.rehearse(field=1, value=1, deeds=deeds), expected)
        self.assertEqual(desk.rehearse(deeds=deeds, value=1, field=1), expected)
        self.assertEqual(undone(desk), before)

    def test_compared_with_a_block(self):
        source = random.Random(31)
        for sizes, form in [pair for pair in samples() if pair[0]]:
            desk = Desk(sizes, form)
            do(desk, ("set", 0, 1))
            field = source.randrange(len(sizes))
            value = source.choice([None, *range(sizes[field])])
            deeds, expected, before = [], [], undone(desk)
            with desk.supposing(field=field, value=value):
                for _ in range(20):
                    deed = some_deed(source, sizes)
                    if deed != ("undo",) or desk.deeds > 1:
                        do(desk, deed)
                        deeds.append(deed)
                        expected.append((desk.half, desk.deeds, desk.answer))
            passed = list(deeds)
            self.assertEqual(desk.rehearse(field=field, value=value, deeds=deeds), expected)
            self.assertEqual(deeds, passed)
            self.assertEqual(undone(desk), before)

    def test_wrong_suppositions(self):
        desk = begun()
        before = undone(desk)
        for deeds in ([], [("undo",)], [("set", 9, 9)]):
            for field in WRONG_FIELDS:
                with self.assertRaises(InvalidField):
                    desk.rehearse(field=field, value=9, deeds=deeds)
            for value in WRONG_VALUES:
                with self.assertRaises(InvalidValue):
                    desk.rehearse(field=2, value=value, deeds=deeds)
        with self.assertRaises(TypeError):
            desk.rehearse(1, 1, [])
        self.assertEqual(undone(desk), before)

    def test_a_deed_in_the_middle_that_is_wrong(self):
        desk = begun()
        before = undone(desk)
        good = [("set", 0, 0), ("change", ODD), ("set", 2, 2)]
        wrong = [(InvalidField, ("set", 3, 9)), (InvalidField, ("set", True, 0)), (InvalidValue, ("set", 0, 2)),
                 (InvalidValue, ("set", 2, "1")), (InvalidForm, ("change", ("yes",))), (InvalidForm, ("change", None))]
        for at in range(4):
            for error, deed in wrong:
                with self.assertRaises(ReasonError) as caught:
                    desk.rehearse(field=1, value=1, deeds=[*good[:at], deed, *good[at:], ("set", None, None)])
                self.assertIs(caught.exception.__class__, error)
                self.assertEqual(undone(desk), before)
            with self.assertRaises(NothingToUndo):
                desk.rehearse(field=1, value=1, deeds=[*good[:at], *[("undo",)] * (at + 1), *good[at:]])
            self.assertEqual(undone(desk), before)

    def test_the_half_cases_are_new(self):
        desk = begun()
        found = desk.rehearse(field=1, value=1, deeds=[("set", 0, 0), ("change", ODD)])
        self.assertEqual({part.__class__ for part in found}, {tuple})
        self.assertIsNot(found[0][0], found[1][0])
        found[0][0].append(7)
        self.assertEqual(found[1][0], [0, 1, None])
        self.assertEqual(desk.half, [1, None, None])


if __name__ == "__main__":
    unittest.main()
