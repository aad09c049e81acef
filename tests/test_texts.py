"""Promise 24: texts of forms and half cases, written and read, and the place of the first word that cannot stand."""

import functools
import random
import unittest

from leastreasons.errors import InvalidForm, InvalidHalf, InvalidSizes, InvalidText
from leastreasons.forms import measure, ordered_tree
from leastreasons.rules import rules_of
from leastreasons.texts import read_case, read_form, write_case, write_form
from tests.brute import some_card, some_forms, some_tree
from tests.grammar import wrong_place
from tests.reference import NO, YES, all_halves, called, refused
from tests.samples import CARD, OTHER_FORMS, PLAIN_TREES, RULES, SIZES, TABLE, wrapped, wrong_forms

BIG = [2] * 11
WORDS = [
    "yes", "no", "is", "tree", "rules", "card", "table", "not", "and", "or", "odd", "(", ")", "0", "1", "2", "3", "-1",
    "00", "01", "-0", "+1", "-", "--", "-01", "0,1", "1,0", "0,0", "0,1,2", "0,2", "2,1", "0,", ",0", "0,,1", "1,", "0=0",
    "1=0,2", "2=1", "0=-", "1=3", "3=0", "0=", "=0", "=", "0=0=0", "-1=0", "0=1,0", "00=0", "1=00", "y", "n", "yn",
    "yyyyyyyyyyyy", "ynynynynynyn", "nnnnnnnnnnn", "ynynynynynyN", "", "Yes", "YES", "yes\n", "\n", "(yes)", "()", "999999999",
    "1000000000", "-999999999", "-1000000000", "0,2,-5", "7,-7", "5,-50", "?", "1.0", "1_0", "0x1", "say", "True", "None",
]
# Each text is on the sheet SIZES, with the number of the word that cannot stand.
REFUSALS = [
    ("", 0), (" ", 0), ("say", 0), ("YES", 0), ("yes ", 1), (" yes", 0), ("yes yes", 1), ("yes )", 1), ("(", 0), (")", 0),
    ("is", 1), ("is 3 0", 1), ("is -1 0", 1), ("is 00 0", 1), ("is x 0", 1), ("is 0", 2), ("is 0 2", 2), ("is 0 0,0", 2),
    ("is 0 1,0", 2), ("is 1 0,3", 2), ("is 1 0, 2", 2), ("is 1 -0", 2), ("is 1 ", 2), ("is 1 -1", 2), ("is 1 0,2 0", 3),
    ("is  1 0", 1), ("is 1 01", 2), ("is 0 --", 2), ("is 0 -,0", 2), ("is (", 1), ("is 1000000000 0", 1),
    ("tree", 1), ("tree 0", 2), ("tree 3 ( yes no )", 1), ("tree 0 yes no", 2), ("tree 0 ( )", 3), ("tree 0 ( yes )", 4),
    ("tree 0 ( yes no", 5), ("tree 0 ( yes no yes )", 5), ("tree 0 ( yes no ( )", 5), ("tree 1 ( yes no )", 5),
    ("tree 0 ( yes no ) )", 6), ("tree 0 ( ( yes no )", 3), ("tree 0 ( yes not )", 5), ("tree 00 ( yes no )", 1),
    ("tree 0 (yes no )", 2), ("tree 0 ( tree 0 ( yes ) no )", 7), ("tree ( yes no )", 1),
    ("rules", 1), ("rules )", 1), ("rules (", 2), ("rules ( )", 3), ("rules ( ) maybe", 3), ("rules ( ) yes no", 4),
    ("rules ( yes ) no", 2), ("rules ( ( yes ) no", 3), ("rules ( ( ) ) no", 4), ("rules ( ( ) yes", 5), ("rules ( ( )", 4),
    ("rules ( ( 0=0 0=1 ) yes ) no", 4), ("rules ( ( 1=0 0=1 ) yes ) no", 4), ("rules ( ( 3=0 ) yes ) no", 3),
    ("rules ( ( 0=2 ) yes ) no", 3), ("rules ( ( 0=1,0 ) yes ) no", 3), ("rules ( ( 0=0,0 ) yes ) no", 3),
    ("rules ( ( 0= ) yes ) no", 3), ("rules ( ( =0 ) yes ) no", 3), ("rules ( ( 0 ) yes ) no", 3),
    ("rules ( ( 0=0=0 ) yes ) no", 3), ("rules ( ( 00=0 ) yes ) no", 3), ("rules ( ( -0=0 ) yes ) no", 3),
    ("rules ( ( 0=01 ) yes ) no", 3), ("rules ( ( 0=-,0 ) yes ) no", 3), ("rules ( ( ( 0=0 ) yes ) no", 3),
    ("rules ( ( 0=0 ) yes ( 0=1 ) yes ) 1", 11), ("rules ( ( 2=0 ( ) yes ) no", 4),
    ("card", 1), ("card (", 2), ("card ( )", 2), ("card ( 0,2 -1,0,1 )", 4), ("card ( 0,2 -1,0,1 5,-50 ) ", 6),
    ("card ( 0,2 -1,0,1 5,-50 )", 6), ("card ( 0,2 -1,0,1 5,-50 0,0 ) 3", 5), ("card ( 0,2,0 -1,0,1 5,-50 ) 3", 2),
    ("card ( 0,2 0,1 5,-50 ) 3", 3), ("card ( 0,2 -1,0,1 5,-50 ) x", 6), ("card ( 0,2 -1,0,1 5,-50 ) -0", 6),
    ("card ( 0,2 -1,0,1 5,-50 ) 03", 6), ("card ( 0,2 -1,0,1 5,-50 ) 1000000000", 6), ("card ( 0,02 ", 2),
    ("card ( 0,2 -1,0,1 5,-1000000000 ) 3", 4), ("card ( 0,-0 -1,0,1 5,-50 ) 3", 2), ("card ( ( 0,2", 2),
    ("card ( 0,2 -1,0,1 5,-50 ) 3 )", 7), ("card ( 0,2 -1,0,1 5,-50 ( ) 3", 5), ("card ( 0, -1,0,1 5,-50 ) 3", 2),
    ("card ( - -1,0,1 5,-50 ) 3", 2), ("card ( 0,2 -1,0,1 5,-50 ) +3", 6), ("card 0,2 -1,0,1 5,-50 3", 1),
    ("table", 1), ("table yyyyyyyyyyy", 1), ("table yyyyyyyyyyyyy", 1), ("table yyyyyyyyyyyN", 1), ("table ", 1),
    ("table yyyyyynyyyyx", 1), ("table 110011001100", 1), ("table yyyyyyyyyyy?", 1), ("table yyyyyyyyyyy\n", 1),
    ("table yyyyyyyyyyyy y", 2), ("table y y", 1), ("table ( y )", 1),
    ("not", 1), ("not not", 2), ("not )", 1), ("not (", 1), ("not yes no", 2), ("not ( yes )", 1),
    ("and", 1), ("and (", 2), ("and yes", 1), ("and ( ) )", 3), ("and ( yes", 3), ("and ( ( yes ) )", 2),
    ("or ( yes no", 4), ("or ( yes , no )", 3), ("odd ( not ) )", 3), ("odd ( yes ) yes", 4), ("and ) (", 1),
    ("and ( yes\n)", 2), ("yes\n", 0), ("and ( yes \n )", 3), ("xor ( )", 0), ("and( )", 0), ("and () )", 1),
]


@functools.cache
def samples():
    """Pairs of sizes and a form, always the same ones."""
    source = random.Random(32)
    found = [(SIZES, form) for form in [*PLAIN_TREES, *OTHER_FORMS]]
    found += [(SIZES, form) for inner in (CARD, TABLE, RULES, ("is", 1, ())) for form in wrapped(inner)]
    for sizes in ([], [2], [6], [3, 2], [2, 2, 3], [2] * 10, [6, 5, 4, 3, 2]):
        found += [(sizes, form) for form in [*some_forms(source, sizes, 12), some_card(source, sizes, 50)]]
    for sizes in (BIG, [2] * 24, [6] * 24):
        found += [(sizes, some_card(source, sizes, 50)), (sizes, some_tree(source, sizes, 5)), (sizes, ("is", 10, (0, 1)))]
    return found


def short_samples():
    """The samples with few words."""
    return [pair for pair in samples() if len(write_form(*pair)) < 400 and pair[0] != [2] * 10]


def nested(levels, form):
    """A form with so many levels more."""
    for level in range(levels):
        form = [("not", form), ("and", (form,)), ("odd", (NO, form, YES)), ("tree", 0, (YES, form))][level % 4]
    return form


class WritingTest(unittest.TestCase):
    def test_each_kind_of_form(self):
        for form, text in (
                (YES, "yes"), (NO, "no"), (("is", 1, (0, 2)), "is 1 0,2"), (("is", 0, ()), "is 0 -"), (("is", 2, (1,)), "is 2 1"),
                (("tree", 1, (YES, ("is", 0, (0,)), NO)), "tree 1 ( yes is 0 0 no )"),
                (("rules", (), True), "rules ( ) yes"), (("rules", (((), False),), False), "rules ( ( ) no ) no"),
                (RULES, "rules ( ( 0=0 1=0,2 ) yes ( 2=1 ) no ( 0=1 ) yes ) no"),
                (("rules", ((((1, ()),), True),), True), "rules ( ( 1=- ) yes ) yes"),
                (CARD, "card ( 0,2 -1,0,1 5,-50 ) 3"), (("card", CARD[1], -7), "card ( 0,2 -1,0,1 5,-50 ) -7"),
                (TABLE, "table " + "ynn" * 4), (("not", YES), "not yes"), (("not", ("not", NO)), "not not no"),
                (("and", ()), "and ( )"), (("or", (YES,)), "or ( yes )"), (("odd", (YES, NO, YES)), "odd ( yes no yes )"),
                (("and", (("or", ()), ("not", ("odd", (NO,))))), "and ( or ( ) not odd ( no ) )")):
            self.assertEqual(called(self, write_form, SIZES, form), text)
            self.assertEqual(called(self, read_form, SIZES, text), form)
        self.assertEqual(called(self, write_form, [], ("card", (), 0)), "card ( ) 0")
        self.assertEqual(called(self, read_form, [], "card ( ) 0"), ("card", (), 0))
        self.assertEqual(called(self, write_form, [], ("table", (False,))), "table n")

    def test_back_and_forth(self):
        for sizes, form in samples():
            text = called(self, write_form, sizes, form)
            self.assertEqual(called(self, read_form, sizes, text), form)
            self.assertEqual(repr(read_form(sizes, text)), repr(form))
            self.assertIs(wrong_place(sizes, text), None)

    def test_returned_forms_of_any_size(self):
        ones = ("odd", tuple(("is", field, (1,)) for field in range(10)))
        for form in (ordered_tree([2] * 10, ones), rules_of([2] * 10, ones)):
            self.assertEqual(read_form([2] * 10, write_form([2] * 10, form)), form)

    def test_weights_with_more_digits(self):
        card = ("card", ((10 ** 9, -10 ** 30), (0, 0, 0), (0, 0)), 10 ** 31 - 1)
        text = "card ( 1000000000,-1" + "0" * 30 + " 0,0,0 0,0 ) " + "9" * 31
        self.assertEqual(called(self, write_form, SIZES, card), text)
        self.see_place(SIZES, text, 2)
        card = ("card", ((999999999, -999999999), (0, 0, 0), (0, 0)), -999999999)
        self.assertEqual(read_form(SIZES, write_form(SIZES, card)), card)

    def see_place(self, sizes, text, place):
        """See that a text is refused at this place, by position and by name."""
        for call in (lambda: read_form(sizes, text), lambda: read_form(text=text, sizes=sizes)):
            with self.assertRaises(InvalidText) as caught:
                call()
            self.assertEqual(caught.exception.place, place, text)

    def test_wrong_arguments(self):
        for form in wrong_forms()[::3]:
            refused(self, InvalidForm, write_form, SIZES, form)
        refused(self, InvalidForm, write_form, BIG, ("table", (True,) * 2048))
        refused(self, InvalidSizes, write_form, (2, 3, 2), None)
        for sizes in (None, (2, 3), [2, 7], [True]):
            refused(self, InvalidSizes, read_form, sizes, "maybe")
            refused(self, InvalidSizes, read_case, sizes, "maybe")
            refused(self, InvalidSizes, write_case, sizes, None)


class RefusalsTest(unittest.TestCase):
    def see_place(self, sizes, text, place):
        """See that a text is refused at this place."""
        with self.assertRaises(InvalidText, msg=text) as caught:
            read_form(sizes, text)
        self.assertEqual(caught.exception.place, place, text)

    def see_any(self, sizes, text):
        """See that a text is refused at the right place, or else read."""
        place = wrong_place(sizes, text)
        if place is None:
            self.assertEqual(write_form(sizes, read_form(sizes, text)), text)
        else:
            self.see_place(sizes, text, place)

    def test_each_refusal(self):
        for text, place in REFUSALS:
            self.assertEqual(wrong_place(SIZES, text), place, text)
            self.see_place(SIZES, text, place)

    def test_texts_cut_off_behind_each_word(self):
        for sizes, form in samples():
            words = write_form(sizes, form).split(" ")
            for many in range(1, min(len(words), 80)):
                self.see_place(sizes, " ".join(words[:many]), many)

    def test_a_word_put_in_or_exchanged(self):
        source = random.Random(33)
        for sizes, form in short_samples():
            words = write_form(sizes, form).split(" ")
            for at in range(len(words) + 1):
                for word in source.sample(WORDS, 12):
                    self.see_any(sizes, " ".join([*words[:at], word, *words[at:]]))
                    self.see_any(sizes, " ".join([*words[:at], word, *words[at + 1:]]))
                self.see_any(sizes, " ".join([*words[:at], "", *words[at:]]))
                self.see_any(sizes, " ".join([*words[:at], *words[at + 1:]]))

    def test_each_word_first_and_second(self):
        for sizes in ([], [2], SIZES, BIG):
            for first in WORDS:
                self.see_any(sizes, first)
                for second in WORDS:
                    self.see_any(sizes, f"{first} {second}")

    def test_words_in_any_sequence(self):
        source = random.Random(34)
        for _ in range(4000):
            words = [source.choice(WORDS[:13] if source.random() < 0.7 else WORDS) for _ in range(source.randrange(1, 9))]
            self.see_any(source.choice([SIZES, [2], []]), " ".join(words))

    def test_blanks_too_many(self):
        for sizes, form in short_samples():
            text = write_form(sizes, form)
            words = text.split(" ")
            self.see_place(sizes, " " + text, 0)
            self.see_place(sizes, text + " ", len(words))
            for at in range(1, len(words)):
                self.see_place(sizes, " ".join(words[:at]) + "  " + " ".join(words[at:]), at)

    def test_the_20th_and_the_21st_level(self):
        for inner in (YES, ("is", 1, (0,)), ("and", ()), ("rules", (), True), CARD, TABLE):
            for more in range(17, 20):
                form = nested(more, inner)
                self.assertEqual(measure(SIZES, form)[1], more + 1)
                self.assertEqual(read_form(SIZES, write_form(SIZES, form)), form)
            text = write_form(SIZES, nested(20, inner))
            self.see_any(SIZES, text)
            self.assertIsNot(wrong_place(SIZES, text), None)

    def test_places_at_the_21st_level(self):
        self.assertEqual(read_form(SIZES, "not " * 19 + "yes"), nots(19, YES))
        self.see_place(SIZES, "not " * 20 + "yes", 20)
        self.see_place(SIZES, "not " * 19 + "not", 20)
        self.see_place(SIZES, "not " * 20 + "not yes", 20)
        self.see_place(SIZES, "not " * 25, 20)
        self.assertEqual(read_form(SIZES, "not " * 19 + "and ( )"), nots(19, ("and", ())))
        self.see_place(SIZES, "not " * 19 + "and ( yes )", 21)
        self.see_place(SIZES, "not " * 19 + "and (", 21)
        self.see_place(SIZES, "not " * 19 + "tree 0 ( yes no )", 22)
        self.see_place(SIZES, "not " * 19 + "tree 0 ( )", 22)
        self.see_place(SIZES, "not " * 19 + "tree 3", 20)
        self.assertEqual(read_form(SIZES, "not " * 19 + "rules ( ( 0=1 ) yes ) no"),
                         nots(19, ("rules", ((((0, (1,)),), True),), False)))
        # A form behind one that ends may stand at the level where that one began.
        self.assertEqual(read_form(SIZES, "odd ( " + "not " * 18 + "yes " + "not " * 18 + "no )"),
                         ("odd", (nots(18, YES), nots(18, NO))))
        self.see_place(SIZES, "odd ( " + "not " * 18 + "yes " + "not " * 19 + "no )", 40)

    def test_a_table_on_a_sheet_that_is_not_small(self):
        for text, place in (("table", 0), ("table " + "y" * 2048, 0), ("not table " + "y" * 2048, 1), ("and ( yes table", 3)):
            self.see_place(BIG, text, place)
        self.assertEqual(read_form(BIG, "not is 10 -"), ("not", ("is", 10, ())))
        self.assertEqual(read_form([2] * 10, "table " + "yn" * 512), ("table", (True, False) * 512))
        self.see_place([2] * 10, "table " + "yn" * 511, 1)

    def test_an_integer_has_at_most_9_digits(self):
        for bound in (0, 7, 10, -1, -10, 999999999, -999999999, 123456789):
            self.assertEqual(read_form([], f"card ( ) {bound}"), ("card", (), bound))
        for word in ("1000000000", "-1000000000", "0000000001", "00", "-0", "-00", "01", "-01", "+1", "--1", "1-", "-", "",
                     "1e3", "0x1", "1_0", "1.0", "one", "1\n", "\n1", "1,", "?"):
            self.see_place([], f"card ( ) {word}", 3)


def nots(many, form):
    """A form in so many forms "not"."""
    for _ in range(many):
        form = ("not", form)
    return form


class CasesTest(unittest.TestCase):
    def see_place(self, sizes, text, place):
        """See that a text is refused at this place, by position and by name."""
        for call in (lambda: read_case(sizes, text), lambda: read_case(text=text, sizes=sizes)):
            with self.assertRaises(InvalidText, msg=text) as caught:
                call()
            self.assertEqual(caught.exception.place, place, text)

    def test_every_half_case(self):
        for sizes in ([], [2], [6], [3, 2], SIZES, [2, 2, 2, 2]):
            for half in all_halves(sizes):
                text = called(self, write_case, sizes, half)
                self.assertEqual(text, " ".join("?" if value is None else str(value) for value in half))
                self.assertEqual(called(self, read_case, sizes, text), half)
                self.see_place(sizes, text + " ?", len(sizes) if sizes else 0)
                self.see_place(sizes, text + " ", len(sizes) if sizes else 0)
                if sizes:
                    self.see_place(sizes, " ".join(text.split(" ")[:-1]), len(sizes) - 1)
                    self.see_place(sizes, " " + text, 0)

    def test_some_half_cases(self):
        self.assertEqual(called(self, write_case, SIZES, [None, 2, 0]), "? 2 0")
        self.assertEqual(called(self, read_case, SIZES, "1 ? 0"), [1, None, 0])
        self.assertEqual(called(self, write_case, [], []), "")
        self.assertEqual(called(self, read_case, [], ""), [])
        self.assertEqual(called(self, read_case, [6] * 24, "5 " * 23 + "?"), [5] * 23 + [None])
        self.assertEqual(called(self, write_case, [6] * 24, [None] * 24), " ".join("?" * 24))

    def test_words_that_cannot_stand(self):
        for at in range(3):
            for word in ("2" if at != 1 else "3", "-1", "-0", "00", "01", "??", "-", "x", "", "1\n", "None", "1000000000", "0,1"):
                words = ["?", "1", "0"]
                words[at] = word
                self.see_place(SIZES, " ".join(words), at)
                self.see_place(SIZES, " ".join([*words, "9"]), at)
                self.see_place(SIZES, " ".join(words[:at + 1]), at)
        for text, place in (("", 0), (" ", 0), ("0", 1), ("0 2", 2), ("0 2 1 0", 3), ("0 2 1 ", 3), ("0  2 1", 1), ("0 2\n1", 1)):
            self.see_place(SIZES, text, place)
        for text in (" ", "?", "0", "x", "\n", "  "):
            self.see_place([], text, 0)

    def test_a_changed_half_case_changes_no_later_one(self):
        found = read_case(SIZES, "? 1 ?")
        found[0] = 7
        found.append(0)
        self.assertEqual(read_case(SIZES, "? 1 ?"), [None, 1, None])

    def test_wrong_half_cases(self):
        for half in (None, (None, 0, 0), [0, 0], [0, 0, 0, 0], [2, 0, 0], [0, True, 0], ["?", 0, 0], "? 0 0", [-1, 0, 0]):
            refused(self, InvalidHalf, write_case, SIZES, half)


if __name__ == "__main__":
    unittest.main()
