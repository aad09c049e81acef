"""Texts: forms and half cases written as words with single spaces between, and read again."""

from leastreasons.forms import check_form
from leastreasons.kinds import are_ascending_below
from leastreasons.shapes import JOINING_WORDS
from leastreasons.sheets import check_half, check_sizes, is_small_sheet, number_of_cases
from leastreasons.words import Words, read_integer, read_value

MOST_LEVELS = 20
OTHER_WORDS = ("yes", "no", "is", "tree", "rules", "card", "table", "not")
NO_VALUES = "-"
UNKNOWN = "?"


def write_form(sizes, form):
    """The text of a form."""
    check_sizes(sizes)
    check_form(sizes, form)
    return " ".join(_words_of_form(form))


def read_form(sizes, text):
    """The form of a text."""
    check_sizes(sizes)
    words = Words(text.split(" "))
    form = _read_form_at(sizes, words, 1)
    words.finish()
    return form


def write_case(sizes, half):
    """The text of a half case."""
    check_sizes(sizes)
    check_half(sizes, half)
    return " ".join([UNKNOWN if value is None else str(value) for value in half])


def read_case(sizes, text):
    """The half case of a text."""
    check_sizes(sizes)
    words = Words(text.split(" ") if text != "" else [])
    half = []
    for size in sizes:
        word = words.look()
        value = read_value(size, word)
        words.accept(UNKNOWN if word == UNKNOWN else value)
        half.append(value)
    words.finish()
    return half


def _words_of_form(form):
    """The list of the words of a form."""
    word = form[0]
    if word == "not":
        return ["not", *_words_of_form(form[1])]
    if word == "tree":
        return ["tree", str(form[1]), *_words_of_forms(form[2])]
    if word in JOINING_WORDS:
        return [word, *_words_of_forms(form[1])]
    return _words_of_lone_form(form)


def _words_of_forms(forms):
    """The list of the words of some forms in parentheses."""
    return ["(", *[word for form in forms for word in _words_of_form(form)], ")"]


def _words_of_lone_form(form):
    """The list of the words of a form without forms in it."""
    word = form[0]
    if word == "say":
        return [_word_of_answer(form[1])]
    if word == "is":
        return ["is", str(form[1]), _word_of_values(form[2])]
    if word == "rules":
        rules = [part for rule in form[1] for part in _words_of_rule(rule)]
        return ["rules", "(", *rules, ")", _word_of_answer(form[2])]
    if word == "card":
        return ["card", "(", *[_word_of_integers(row) for row in form[1]], ")", str(form[2])]
    return ["table", "".join(["y" if result else "n" for result in form[1]])]


def _words_of_rule(rule):
    """The list of the words of a rule."""
    conditions = [f"{field}={_word_of_values(values)}" for field, values in rule[0]]
    return ["(", *conditions, ")", _word_of_answer(rule[1])]


def _word_of_answer(result):
    """The word of an answer."""
    return "yes" if result else "no"


def _word_of_values(values):
    """The word of some values, perhaps none."""
    return _word_of_integers(values) if values != () else NO_VALUES


def _word_of_integers(integers):
    """The word of some integers."""
    return ",".join([str(integer) for integer in integers])


def _read_form_at(sizes, words, level):
    """The form at a level that begins with the next word."""
    word = words.accept(_find_first_word(sizes, words.look(), level))
    if word == "not":
        return ("not", _read_form_at(sizes, words, level + 1))
    if word == "tree":
        return _read_tree(sizes, words, level)
    if word in JOINING_WORDS:
        return (word, _read_forms(sizes, words, level + 1))
    return _read_lone_form(sizes, words, word)


def _read_tree(sizes, words, level):
    """The form "tree" at a level of which the words behind the first one are the next ones."""
    field = words.accept(read_value(len(sizes), words.look()))
    words.skip("(")
    branches = []
    for _ in range(sizes[field]):
        branches.append(_read_form_at(sizes, words, level + 1))
    words.skip(")")
    return ("tree", field, tuple(branches))


def _read_forms(sizes, words, level):
    """The tuple of the forms at a level that stand in parentheses next."""
    words.skip("(")
    forms = []
    while words.look() != ")":
        forms.append(_read_form_at(sizes, words, level))
    words.skip(")")
    return tuple(forms)


def _read_lone_form(sizes, words, word):
    """The form without forms in it of which the words behind this first one are the next ones."""
    if word == "is":
        field = words.accept(read_value(len(sizes), words.look()))
        return ("is", field, words.accept(_find_values(sizes[field], words.look())))
    if word == "rules":
        return _read_rules(sizes, words)
    if word == "card":
        return _read_card(sizes, words)
    if word == "table":
        return ("table", words.accept(_find_results(sizes, words.look())))
    return ("say", word == "yes")


def _read_rules(sizes, words):
    """The form "rules" of which the words behind the first one are the next ones."""
    words.skip("(")
    rules = []
    while words.look() != ")":
        rules.append(_read_rule(sizes, words))
    words.skip(")")
    return ("rules", tuple(rules), words.accept(_find_answer(words.look())))


def _read_rule(sizes, words):
    """The rule of the next words."""
    words.skip("(")
    conditions = []
    least = 0
    while words.look() != ")":
        condition = words.accept(_find_condition(sizes, least, words.look()))
        conditions.append(condition)
        least = condition[0] + 1
    words.skip(")")
    return (tuple(conditions), words.accept(_find_answer(words.look())))


def _read_card(sizes, words):
    """The form "card" of which the words behind the first one are the next ones."""
    words.skip("(")
    weights = []
    for size in sizes:
        weights.append(words.accept(_find_weights(size, words.look())))
    words.skip(")")
    return ("card", tuple(weights), words.accept(read_integer(words.look())))


def _find_first_word(sizes, word, level):
    """The word, if a form at this level can begin with it; otherwise None."""
    if level > MOST_LEVELS or (word not in OTHER_WORDS and word not in JOINING_WORDS):
        return None
    if word == "table" and not is_small_sheet(sizes):
        return None
    return word


def _find_answer(word):
    """The answer that a word tells; None if it tells none."""
    return word == "yes" if word in ("yes", "no") else None


def _find_values(size, word):
    """The ascending tuple of values of a field of this size that a word tells; None if it tells none."""
    if word == NO_VALUES:
        return ()
    values = [read_value(size, part) for part in word.split(",")]
    return tuple(values) if are_ascending_below(values, size) else None


def _find_condition(sizes, least, word):
    """The condition on a field from the least one on that a word tells; None if it tells none."""
    before, _, behind = word.partition("=")
    field = read_value(len(sizes), before)
    if field is None or field < least:
        return None
    values = _find_values(sizes[field], behind)
    return (field, values) if values is not None else None


def _find_weights(size, word):
    """The tuple of the weights of a field of this size that a word tells; None if it tells none."""
    weights = [read_integer(part) for part in word.split(",")]
    return tuple(weights) if len(weights) == size and None not in weights else None


def _find_results(sizes, word):
    """The tuple of the answers for all cases that a word tells; None if it tells none."""
    if len(word) != number_of_cases(sizes) or not all([letter in "yn" for letter in word]):
        return None
    return tuple([letter == "y" for letter in word])
