"""The console: a desk that is made, changed and asked by commands of words."""

from leastreasons.asking import fewest_asks, outlook
from leastreasons.desks import Desk
from leastreasons.errors import InvalidCommand
from leastreasons.texts import UNKNOWN, read_form, write_case
from leastreasons.words import read_integer

MOST_SUPPOSES = 8
LONE_COMMANDS = ("undo", "show", "answer", "reasons", "missing", "asks", "count")


class Console:
    """A desk, at first none, for the commands that are executed."""

    def __init__(self):
        self._sizes = None
        self._desk = None

    def execute(self, command):
        """What a command returns."""
        # The whole command is read first: whether it is one is told before any error of the calls.
        parts = _parse(command)
        if parts is None:
            raise InvalidCommand("this is not a command")
        if parts[0] == "sheet":
            return self._begin(parts[1])
        if self._desk is None:
            raise InvalidCommand("there is no desk before the command sheet")
        return _run(self._sizes, self._desk, parts)

    def _begin(self, sizes):
        """Make a new desk on the sheet with these sizes."""
        self._desk = Desk(sizes, ("say", False))
        self._sizes = sizes
        return "ok"


def _parse(command):
    """The tuple of the word and the arguments of a command; None if any value is no command."""
    if not isinstance(command, str):
        return None
    words = command.split(" ")
    if words[0] != "sheet":
        return _parse_for_desk(command, MOST_SUPPOSES)
    sizes = [read_integer(word) for word in words[1:]]
    return ("sheet", sizes) if None not in sizes else None


def _parse_for_desk(command, supposes):
    """The same for commands other than "sheet" with at most so many words "suppose" ahead."""
    word, blank, text = command.partition(" ")
    if word in LONE_COMMANDS:
        return (word,) if blank == "" else None
    if word == "form":
        return ("form", text) if blank != "" else None
    if word == "set":
        return _parse_setting(text)
    if word == "suppose" and supposes > 0:
        return _parse_supposing(text, supposes)
    return None


def _parse_setting(text):
    """The same for what stands behind the word "set"."""
    words = text.split(" ")
    if len(words) != 2 or not _are_field_and_value(words[0], words[1]):
        return None
    return ("set", read_integer(words[0]), read_integer(words[1]))


def _parse_supposing(text, supposes):
    """The same for what stands behind the word "suppose"; the last argument is the tuple of the command inside."""
    words = text.split(" ", 2)
    if len(words) != 3 or not _are_field_and_value(words[0], words[1]):
        return None
    inside = _parse_for_desk(words[2], supposes - 1)
    return ("suppose", read_integer(words[0]), read_integer(words[1]), inside) if inside is not None else None


def _are_field_and_value(word, second_word):
    """Whether two words are an integer, and an integer or the sign for an unknown value."""
    return read_integer(word) is not None and (second_word == UNKNOWN or read_integer(second_word) is not None)


def _run(sizes, desk, parts):
    """Run a command for a desk, and tell what it returns."""
    if parts[0] == "suppose":
        with desk.supposing(field=parts[1], value=parts[2]):
            return _run(sizes, desk, parts[3])
    if parts[0] == "set":
        desk[parts[1]] = parts[2]
        return "ok"
    if parts[0] == "form":
        desk.change(read_form(sizes, parts[1]))
        return "ok"
    if parts[0] == "undo":
        desk.undo()
        return "ok"
    return _tell(sizes, desk, parts[0])


def _tell(sizes, desk, word):
    """What a command that changes nothing returns."""
    if word == "show":
        return write_case(sizes, desk.half) if sizes != [] else "-"
    if word == "answer":
        return _write_answer(desk.answer)
    if word == "reasons":
        return _write_family(desk.reasons(), "unsure")
    if word == "missing":
        return _write_family(desk.missing(), "sure")
    if word == "asks":
        return str(fewest_asks(sizes, desk.form, desk.half))
    return str(outlook(sizes, desk.form, desk.half)[0])


def _write_answer(result):
    """The word of an answer that may be None."""
    if result is None:
        return "unsure"
    return "yes" if result else "no"


def _write_family(family, word):
    """The words of the sets of a family, or this word for None."""
    if family is None:
        return word
    return " ".join([_write_set(fields) for fields in family])


def _write_set(fields):
    """The word of a set of fields."""
    return ",".join([str(field) for field in fields]) if fields != [] else "-"
