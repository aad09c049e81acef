"""Promise 25: the console, compared with a desk that is worked with directly."""

import itertools
import random
import unittest

from leastreasons.asking import fewest_asks, outlook
from leastreasons.console import Console
from leastreasons.desks import Desk
from leastreasons.errors import (InvalidCommand, InvalidField, InvalidSizes, InvalidText, InvalidValue,
                                 NothingToUndo, NotSmall)
from leastreasons.texts import write_form
from tests.brute import some_form
from tests.reference import ANY_VALUES, raises
from tests.samples import OTHER_FORMS, PLAIN_TREES, SIZES

EXAMPLE_SIZES = [2, 2, 3]
EXAMPLE_TEXT = "card ( 0,2 0,1 0,1,2 ) 3"
ASKING = ["show", "answer", "reasons", "missing", "asks", "count"]
LONE = [*ASKING, "undo"]
GOOD = [*LONE, "set 0 1", "set 1 ?", "form yes", "form not no", "suppose 0 1 show", "suppose 1 ? set 0 0"]
NO_COMMANDS = [
    "", " ", "Show", "SHOW", "shows", "sho", " show", "show ", "show 1", "show show", "undo ", " undo", "undo 1", "undo\n",
    "answer yes", "answer ", "reasons 0", "missing 0", "asks  ", "count 1", "\ncount", "count\n", "form", " form yes",
    "Form yes", "forms yes", "form\nyes", "set", "set ", "set 0", "set 0 ", "set 0 1 ", "set 0 1 2", "set  0 1", "set 0  1",
    " set 0 1", "set 0 x", "set x 0", "set ? 0", "set ? ?", "set 00 1", "set 0 01", "set -0 0", "set 0 -0", "set 0 +1",
    "set 1000000000 0", "set 0 1000000000", "set 0,1 0", "set 0 None", "set 0 ??", "set 0 -", "set 0 1\n", "set\n0 1",
    "sheets", "sheet ", "sheet  2", "sheet 2 ", "sheet 2  2", " sheet", "sheet x", "sheet 2,2", "sheet 02", "sheet -0",
    "sheet +2", "sheet 1000000000", "sheet ?", "sheet 2 2 x", "sheet\n", "Sheet 2", "suppose", "suppose ", "suppose 0",
    "suppose 0 1", "suppose 0 1 ", "suppose 0 1  show", "suppose 0 1 show ", "suppose  0 1 show", "suppose 0  1 show",
    "suppose 0 1 sheet", "suppose 0 1 sheet 2 2", "suppose 0 1 shows", "suppose 0 1 form", "suppose 0 1 set 0",
    "suppose x 1 show", "suppose 0 x show", "suppose ? 1 show", "suppose 00 1 show", "suppose 0 01 show", "suppose show",
    "suppose 0 show", "suppose 0 1 suppose 0 1", "suppose 0 1 suppose 0 show", "suppose 0 1 suppose 0 1 sheet",
    "suppose 0 1 suppose 0 1 sheet 2", "suppose 0 1 suppose", "Suppose 0 1 show", "suppose 0 1\nshow", "quit", "help", "?",
]


def begun():
    """A console with a desk on which nothing was set."""
    console = Console()
    console.execute("sheet 2 2 3")
    console.execute(f"form {EXAMPLE_TEXT}")
    return console


def shown(console):
    """All that a console tells of its desk."""
    told = [console.execute(command) for command in ASKING]
    for field, value in itertools.product(range(3), ("0", "1", "?")):
        told += [console.execute(f"suppose {field} {value} {command}") for command in ASKING]
    return told


class SheetTest(unittest.TestCase):
    def test_no_desk_at_first(self):
        console = Console()
        for command in [*GOOD, *NO_COMMANDS, "form maybe", "set 9 9", "suppose 9 9 undo", *ANY_VALUES]:
            raises(self, InvalidCommand, console.execute, command)
        for command in ("sheet 7", "sheet 1", "sheet 0", "sheet -2", "sheet" + " 2" * 25):
            raises(self, InvalidSizes, console.execute, command)
        raises(self, NotSmall, console.execute, "sheet 6 6 6 6")
        for command in GOOD:
            raises(self, InvalidCommand, console.execute, command)
        self.assertEqual(console.execute("sheet 2 3"), "ok")
        self.assertEqual(console.execute("show"), "? ?")

    def test_a_new_desk(self):
        console = begun()
        console.execute("set 0 1")
        self.assertEqual(console.execute("sheet 3 2"), "ok")
        self.assertEqual([console.execute(command) for command in ASKING], ["? ?", "no", "-", "sure", "0", "0"])
        raises(self, NothingToUndo, console.execute, "undo")
        self.assertEqual(console.execute("set 0 2"), "ok")
        raises(self, InvalidField, console.execute, "set 2 0")

    def test_a_sheet_without_fields(self):
        console = Console()
        self.assertEqual(console.execute(command="sheet"), "ok")
        self.assertEqual([console.execute(command) for command in ASKING], ["-", "no", "-", "sure", "0", "0"])
        self.assertEqual(console.execute("form card ( ) 0"), "ok")
        self.assertEqual([console.execute(command) for command in ASKING], ["-", "yes", "-", "sure", "0", "1"])
        raises(self, InvalidField, console.execute, "set 0 0")
        raises(self, InvalidField, console.execute, "suppose 0 ? show")

    def test_a_sheet_that_is_refused_changes_nothing(self):
        console = begun()
        console.execute("set 0 1")
        before = shown(console)
        for error, command in ((InvalidSizes, "sheet 2 7"), (InvalidSizes, "sheet 2 -2"), (InvalidSizes, "sheet 999999999"),
                               (InvalidSizes, "sheet" + " 2" * 25), (NotSmall, "sheet" + " 2" * 11),
                               (NotSmall, "sheet" + " 6" * 24), (InvalidCommand, "sheet 2 x"), (InvalidCommand, "sheet ")):
            raises(self, error, console.execute, command)
            self.assertEqual(shown(console), before)
        self.assertEqual(console.execute("sheet" + " 2" * 10), "ok")
        self.assertEqual(console.execute("show"), " ".join("?" * 10))

    def test_consoles_are_independent(self):
        one, other = begun(), begun()
        one.execute("set 0 1")
        self.assertEqual((one.execute("show"), other.execute("show")), ("1 ? ?", "? ? ?"))
        raises(self, InvalidCommand, Console().execute, "show")


class CommandsTest(unittest.TestCase):
    def test_the_example_of_the_document(self):
        console = begun()
        self.assertEqual([console.execute(command) for command in ASKING],
                         ["? ? ?", "unsure", "unsure", "0,1 0,2 1,2", "3", "6"])
        self.assertEqual(console.execute("set 0 1"), "ok")
        self.assertEqual([console.execute(command) for command in ASKING],
                         ["1 ? ?", "unsure", "unsure", "1 2", "2", "5"])
        self.assertEqual([console.execute(command) for command in ("set 1 1", "set 2 1")], ["ok", "ok"])
        self.assertEqual([console.execute(command) for command in ASKING], ["1 1 1", "yes", "0,1 0,2", "sure", "0", "1"])
        self.assertEqual(console.execute("set 0 ?"), "ok")
        self.assertEqual([console.execute(command) for command in ASKING], ["? 1 1", "unsure", "unsure", "0", "1", "1"])
        self.assertEqual(console.execute("set 0 0"), "ok")
        self.assertEqual([console.execute(command) for command in ASKING], ["0 1 1", "no", "0,2", "sure", "0", "0"])
        self.assertEqual([console.execute("undo") for _ in range(6)], ["ok"] * 6)
        self.assertEqual([console.execute(command) for command in ASKING], ["? ? ?", "no", "-", "sure", "0", "0"])
        raises(self, NothingToUndo, console.execute, "undo")

    def test_compared_with_a_desk(self):
        source = random.Random(35)
        for sizes in ([], [2], [3, 2], SIZES, [2, 2, 2, 2], [4, 2, 3]):
            console, desk = Console(), Desk(sizes, ("say", False))
            console.execute(" ".join(["sheet", *map(str, sizes)]))
            for _ in range(80):
                command, deed = self.some_deed(source, sizes, desk)
                self.assertEqual(console.execute(command), "ok")
                deed()
                self.see_state(console, desk, sizes)

    def some_deed(self, source, sizes, desk):
        """A command that changes a desk, and the same as a call."""
        kind = source.choice(["set", "set", "form", "undo"])
        if kind == "set" and sizes:
            field = source.randrange(len(sizes))
            value = source.choice([None, *range(sizes[field])])
            return f"set {field} {'?' if value is None else value}", lambda: desk.__setitem__(field, value)
        if kind == "undo" and desk.deeds:
            return "undo", desk.undo
        form = some_form(source, sizes, 3)
        return f"form {write_form(sizes, form)}", lambda: desk.change(form)

    def see_state(self, console, desk, sizes):
        """See that a console tells of its desk what a desk is."""
        words = ["?" if value is None else str(value) for value in desk.half]
        self.assertEqual(console.execute("show"), " ".join(words) if sizes else "-")
        self.assertEqual(console.execute("answer"), {True: "yes", False: "no", None: "unsure"}[desk.answer])
        for command, family, word in (("reasons", desk.reasons(), "unsure"), ("missing", desk.missing(), "sure")):
            expected = word if family is None else " ".join(",".join(map(str, fields)) or "-" for fields in family)
            self.assertEqual(console.execute(command), expected)
        self.assertEqual(console.execute("asks"), str(fewest_asks(sizes, desk.form, desk.half)))
        self.assertEqual(console.execute("count"), str(outlook(sizes, desk.form, desk.half)[0]))

    def test_every_kind_of_form(self):
        console = Console()
        console.execute("sheet 2 3 2")
        for form in [*PLAIN_TREES, *OTHER_FORMS]:
            self.assertEqual(console.execute(f"form {write_form(SIZES, form)}"), "ok")
            desk = Desk(SIZES, form)
            self.see_state(console, desk, SIZES)

    def test_words_that_are_no_command(self):
        console = begun()
        before = shown(console)
        for command in [*NO_COMMANDS, *ANY_VALUES, b"show", ["show"]]:
            raises(self, InvalidCommand, console.execute, command)
        self.assertEqual(shown(console), before)

    def test_no_desk_beside_no_command(self):
        for command in NO_COMMANDS:
            raises(self, InvalidCommand, Console().execute, command)

    def test_errors_of_texts(self):
        console = begun()
        before = shown(console)
        for text, place in (("", 0), (" ", 0), (" yes", 0), ("yes ", 1), ("maybe", 0), ("yes no", 1), ("is 0", 2), ("is 3 0", 1),
                            ("and ( yes", 3), ("not\nyes", 0), ("form yes", 0), ("tree 0 ( yes )", 4), ("table yy", 1)):
            for ahead in ("", "suppose 0 1 ", "suppose 0 1 suppose 2 2 "):
                self.assertEqual(raises(self, InvalidText, console.execute, f"{ahead}form {text}").place, place)
        self.assertEqual(shown(console), before)
        self.assertEqual(console.execute("undo"), "ok")
        raises(self, NothingToUndo, console.execute, "undo")

    def test_errors_of_settings(self):
        console = begun()
        before = shown(console)
        for ahead, behind in (("set", ""), ("suppose", " show"), ("suppose", " undo"), ("suppose 0 1 set", ""),
                              ("suppose 0 1 suppose", " form maybe"), ("suppose", " suppose 9 9 show")):
            for field in ("3", "-1", "999999999", "-999999999"):
                for value in ("0", "?", "9", "-1"):
                    raises(self, InvalidField, console.execute, f"{ahead} {field} {value}{behind}")
            for field, value in (("0", "2"), ("2", "3"), ("1", "-1"), ("0", "999999999")):
                raises(self, InvalidValue, console.execute, f"{ahead} {field} {value}{behind}")
        self.assertEqual(shown(console), before)

    def test_nothing_to_undo_inside(self):
        console = begun()
        console.execute("set 0 1")
        raises(self, NothingToUndo, console.execute, "suppose 1 1 undo")
        raises(self, NothingToUndo, console.execute, "suppose 1 1 suppose 1 0 undo")
        self.assertEqual(console.execute("show"), "1 ? ?")
        self.assertEqual(console.execute("undo"), "ok")
        self.assertEqual(console.execute("show"), "? ? ?")

    def test_not_askable(self):
        console = Console()
        console.execute("sheet" + " 2" * 10)
        self.assertEqual(console.execute("form is 9 1"), "ok")
        raises(self, NotSmall, console.execute, "asks")
        self.assertEqual([console.execute(command) for command in ("answer", "missing", "count")], ["unsure", "9", "512"])
        raises(self, NotSmall, console.execute, "suppose 0 0 suppose 1 0 asks")
        self.assertEqual(console.execute("suppose 0 0 suppose 1 0 suppose 2 0 asks"), "1")
        for field in range(3):
            console.execute(f"set {field} 0")
        self.assertEqual(console.execute("asks"), "1")


class SupposeTest(unittest.TestCase):
    def test_what_a_command_returns_inside(self):
        console = begun()
        console.execute("set 0 1")
        before = shown(console)
        for command, expected in (("show", "1 1 ?"), ("answer", "yes"), ("reasons", "0,1"), ("missing", "sure"), ("asks", "0"),
                                  ("count", "3"), ("set 0 0", "ok"), ("set 1 ?", "ok"), ("form no", "ok")):
            self.assertEqual(console.execute(f"suppose 1 1 {command}"), expected)
        self.assertEqual(console.execute("suppose 0 ? show"), "? ? ?")
        self.assertEqual(console.execute("suppose 0 ? missing"), "0,1 0,2 1,2")
        self.assertEqual(console.execute("suppose 0 0 suppose 1 0 answer"), "no")
        self.assertEqual(console.execute("suppose 0 0 suppose 0 1 show"), "1 ? ?")
        self.assertEqual(console.execute("suppose 1 1 suppose 2 2 form not yes"), "ok")
        self.assertEqual(shown(console), before)
        self.assertEqual([console.execute("undo") for _ in range(2)], ["ok", "ok"])
        raises(self, NothingToUndo, console.execute, "undo")

    def test_nested_to_8_and_to_9(self):
        console = begun()
        before = shown(console)
        for many in range(1, 9):
            ahead = "".join(f"suppose {at % 3} {at % 2} " for at in range(many))
            half = ["?"] * 3
            for at in range(many):
                half[at % 3] = str(at % 2)
            self.assertEqual(console.execute(ahead + "show"), " ".join(half))
            self.assertEqual(console.execute(ahead + "set 0 ?"), "ok")
            raises(self, InvalidCommand, console.execute, ahead + "sheet 2")
            raises(self, InvalidField, console.execute, ahead + "set 3 0")
        for many in (9, 10, 500):
            for field in (0, 9):
                for command in (*LONE, "set 0 1", "form yes", "sheet"):
                    raises(self, InvalidCommand, console.execute, f"suppose {field} 1 " * many + command)
        self.assertEqual(shown(console), before)

    def test_words_suppose_in_a_text_are_not_ahead(self):
        console = begun()
        ahead = "suppose 0 1 " * 8
        self.assertEqual(raises(self, InvalidText, console.execute, ahead + "form " + ahead + "show").place, 0)

    def test_whether_it_is_a_command_is_looked_at_first(self):
        console = begun()
        before = shown(console)
        for command in ("suppose 9 9 shows", "suppose 9 9 sheet", "suppose 9 0 set 0", "suppose 0 9 suppose 9 9 form",
                        "suppose 9 9 suppose 0 0 undo ", "suppose 9 9 suppose x 0 show", "suppose 9 9 "):
            raises(self, InvalidCommand, console.execute, command)
        raises(self, InvalidField, console.execute, "suppose 9 9 form maybe")
        raises(self, InvalidField, console.execute, "suppose 0 1 suppose 9 9 undo")
        raises(self, InvalidValue, console.execute, "suppose 0 9 suppose 9 9 undo")
        self.assertEqual(shown(console), before)


class NamesTest(unittest.TestCase):
    def test_by_position_and_by_name(self):
        console = Console()
        self.assertEqual(console.execute("sheet 2 2"), console.execute(command="sheet 2 2"))
        self.assertEqual(console.execute(command="show"), "? ?")
        with self.assertRaises(InvalidCommand):
            console.execute(command=None)


if __name__ == "__main__":
    unittest.main()
