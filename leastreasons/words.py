"""Words of texts: reading them one after another, and the integers and values that they tell."""

from leastreasons.errors import InvalidText
from leastreasons.kinds import is_integer_below

DIGITS = "0123456789"
MOST_DIGITS = 9


class Words:
    """The words of a text, of which one after another is read."""

    def __init__(self, words):
        self._words = list(words)
        self._place = 0

    def look(self):
        """The next word; InvalidText if words are missing."""
        if self._place == len(self._words):
            raise InvalidText(self._place)
        return self._words[self._place]

    def accept(self, found):
        """Go on behind the next word, which told what was found; InvalidText if that is None: it cannot stand there."""
        if found is None:
            raise InvalidText(self._place)
        self._place += 1
        return found

    def skip(self, word):
        """Go on behind the next word, which must be this one."""
        self.accept(word if self.look() == word else None)

    def finish(self):
        """See that no word is left."""
        if self._place < len(self._words):
            raise InvalidText(self._place)


def read_integer(word):
    """The integer that a word tells; None if it tells none, or one with more than 9 digits."""
    digits = word[1:] if word.startswith("-") else word
    if not 1 <= len(digits) <= MOST_DIGITS or not all([digit in DIGITS for digit in digits]):
        return None
    number = int(word)
    # Each integer is written in one way: without leading zeros, and 0 without a minus.
    return number if str(number) == word else None


def read_value(size, word):
    """The integer from 0 on below a size that a word tells; None if it tells none."""
    number = read_integer(word)
    return number if is_integer_below(number, size) else None
