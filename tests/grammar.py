"""The grammar of the texts, as what may stand next: a list of what is still expected, its first part at the end."""

import math
import re

INTEGER = re.compile(r"0|-?[1-9][0-9]{0,8}")


def number_below(limit, word):
    """The integer from 0 on below a limit that a word is, or None."""
    return int(word) if re.fullmatch(r"0|[1-9][0-9]{0,8}", word) and int(word) < limit else None


def are_values(size, word):
    """Whether a word is values of a field of this size."""
    if word == "-":
        return True
    numbers = [number_below(size, part) for part in word.split(",")]
    return None not in numbers and numbers == sorted(set(numbers))


def behind_form(sizes, level, word):
    """What is expected behind the first word of a form at a level; None if it cannot stand."""
    if level > 20 or (word == "table" and math.prod(sizes) > 1024):
        return None
    weights = [("weights", size) for size in sizes]
    return {
        "yes": [],
        "no": [],
        "is": [("is field",)],
        "tree": [("tree field", level)],
        "rules": [("word", "("), ("rule or end",)],
        "card": [("word", "("), *weights, ("word", ")"), ("integer",)],
        "table": [("letters",)],
        "not": [("form", level + 1)],
        "and": [("word", "("), ("form or end", level + 1)],
        "or": [("word", "("), ("form or end", level + 1)],
        "odd": [("word", "("), ("form or end", level + 1)],
    }.get(word)


def behind_condition(sizes, least, word):
    """What is expected behind a condition whose field is the least one or a greater one, or behind the end."""
    if word == ")":
        return []
    parts = word.split("=")
    field = number_below(len(sizes), parts[0])
    if len(parts) != 2 or field is None or field < least or not are_values(sizes[field], parts[1]):
        return None
    return [("condition or end", field + 1)]


def behind_fields(sizes, expected, word):
    """What is expected behind the field of a form "is" or "tree"."""
    field = number_below(len(sizes), word)
    if field is None:
        return None
    if expected[0] == "is field":
        return [("values", sizes[field])]
    return [("word", "("), *[("form", expected[1] + 1)] * sizes[field], ("word", ")")]


def behind(sizes, expected, word):
    """What is expected behind a word that stands where this is expected; None if it cannot stand."""
    kind = expected[0]
    if kind == "form":
        return behind_form(sizes, expected[1], word)
    if kind == "form or end":
        more = behind_form(sizes, expected[1], word)
        return [] if word == ")" else None if more is None else [*more, expected]
    if kind == "rule or end":
        return {")": [("answer",)], "(": [("condition or end", 0), ("answer",), expected]}.get(word)
    if kind == "condition or end":
        return behind_condition(sizes, expected[1], word)
    if kind in ("is field", "tree field"):
        return behind_fields(sizes, expected, word)
    parts = word.split(",")
    can_stand = {
        "word": lambda: word == expected[1],
        "answer": lambda: word in ("yes", "no"),
        "values": lambda: are_values(expected[1], word),
        "integer": lambda: INTEGER.fullmatch(word),
        "weights": lambda: len(parts) == expected[1] and all(INTEGER.fullmatch(part) for part in parts),
        "letters": lambda: re.fullmatch("[yn]*", word) and len(word) == math.prod(sizes),
    }[kind]
    return [] if can_stand() else None


def wrong_place(sizes, text):
    """The number of the first word of a text that cannot stand, or of the words if words are missing, or None."""
    expected = [("form", 1)]
    words = text.split(" ")
    for place, word in enumerate(words):
        more = behind(sizes, expected.pop(), word) if expected else None
        if more is None:
            return place
        expected.extend(reversed(more))
    return len(words) if expected else None
