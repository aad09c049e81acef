"""Desks: a half case that is filled step by step, with steps that can be taken back and values that are supposed."""

from leastreasons.asking import sure_answer
from leastreasons.errors import InvalidValue, NothingToUndo
from leastreasons.forms import answers_completing, check_form, check_small_form, says
from leastreasons.kinds import is_integer_below
from leastreasons.masks import family_of, least_masks, mask_of, meeting_masks
from leastreasons.rules import primes_of_answers
from leastreasons.sheets import check_field, list_completing, unknown_fields


class Supposition:
    """A block inside of which a desk has a value that it did not have before."""

    def __init__(self, desk, field, value):
        self._desk = desk
        self._field = field
        self._value = value
        self._half = None
        self._form = None
        self._past = None
        self._kept = None

    def __enter__(self):
        desk = self._desk
        self._half = desk._half
        self._form = desk._form
        self._past = desk._past
        self._kept = desk._kept
        desk._half = _with_value(desk._half, self._field, self._value)
        desk._kept = len(desk._past)
        return desk

    def __exit__(self, kind, value, trace):
        # No deed changes a tuple that a desk has; so what it had at the beginning is still as it was.
        desk = self._desk
        desk._half = self._half
        desk._form = self._form
        desk._past = self._past
        desk._kept = self._kept


class Desk:
    """A form on a small sheet and a half case, at first with all fields unknown."""

    def __init__(self, sizes, form):
        check_small_form(sizes, form)
        self._sizes = list(sizes)
        self._form = form
        self._half = (None,) * len(sizes)
        # For each deed that is not taken back the half case and the form ahead of it.
        self._past = ()
        # So many of these deeds were done ahead of the innermost block; undo takes none of them back.
        self._kept = 0

    @property
    def half(self):
        """The half case."""
        return list(self._half)

    @property
    def form(self):
        """The form."""
        return self._form

    @property
    def answer(self):
        """The answer if it is sure, otherwise None."""
        return sure_answer(self._sizes, self._form, self._half)

    @property
    def deeds(self):
        """How many settings and changes are not taken back."""
        return len(self._past)

    def __getitem__(self, at):
        """The value of a field, or None."""
        check_field(self._sizes, at)
        return self._half[at]

    def __setitem__(self, at, worth):
        """Give a field one of its values, or forget its value."""
        _check_setting(self._sizes, at, worth)
        self._past = (*self._past, (self._half, self._form))
        self._half = _with_value(self._half, at, worth)

    def __contains__(self, x):
        """Whether any value is a field that is known."""
        return is_integer_below(x, len(self._half)) and self._half[x] is not None

    def __len__(self):
        """How many fields are known."""
        return len([value for value in self._half if value is not None])

    def __iter__(self):
        raise TypeError("a desk is not iterated over")

    def change(self, form):
        """Have another form from now on."""
        check_form(self._sizes, form)
        self._past = (*self._past, (self._half, self._form))
        self._form = form

    def undo(self):
        """Take back the last setting or change that is not taken back."""
        if len(self._past) == self._kept:
            raise NothingToUndo("there is no deed that can be taken back")
        self._half, self._form = self._past[-1]
        self._past = self._past[:-1]

    def reasons(self):
        """The family of the least sets of known fields that make the answer sure; None if it is not sure."""
        result = self.answer
        if result is None:
            return None
        return _find_sure_sets(self._sizes, self._form, self._half, result)

    def missing(self):
        """The family of the least sets of unknown fields some values of which make it sure; None if it is sure."""
        if self.answer is not None:
            return None
        return _find_missing_sets(self._sizes, self._form, self._half)

    def twin(self):
        """An independent copy, which can take back the same deeds."""
        other = Desk(self._sizes, self._form)
        other._half = self._half
        other._past = self._past
        return other

    def supposing(self, *, field, value):
        """An object for `with`, inside of whose block the desk has this value."""
        _check_setting(self._sizes, field, value)
        return Supposition(self, field, value)

    def trial(self, pairs):
        """The list of the answers behind each of some tuples (field, value), each supposed inside of those before."""
        if pairs == []:
            return []
        field, value = pairs[0]
        with self.supposing(field=field, value=value):
            return [self.answer, *self.trial(pairs[1:])]

    def rehearse(self, *, field, value, deeds):
        """The list of the tuples (half, deeds, answer) behind each of some deeds inside of a block of supposing."""
        told = []
        with self.supposing(field=field, value=value):
            for deed in deeds:
                self._do(deed)
                told.append((self.half, self.deeds, self.answer))
        return told

    def _do(self, deed):
        """Do a deed that is given as a tuple."""
        if deed[0] == "set":
            self[deed[1]] = deed[2]
        elif deed[0] == "change":
            self.change(deed[1])
        else:
            self.undo()


def _check_setting(sizes, field, value):
    """Raise InvalidField or InvalidValue unless a field can have this value or be forgotten."""
    check_field(sizes, field)
    if value is not None and not is_integer_below(value, sizes[field]):
        raise InvalidValue("a value is an integer from 0 on, less than the size of the field, or None")


def _with_value(half, field, value):
    """A half case like this one, in which the field has the value."""
    return (*half[:field], value, *half[field + 1:])


def _find_sure_sets(sizes, form, half, result):
    """The family of the least sets of known fields that make this answer sure."""
    cases = list_completing(sizes, [None] * len(sizes))
    others = [case for case in cases if says(sizes, form, case) != result]
    # A set makes it sure if each case with the other answer differs from the half case in one of its fields.
    masks = list({mask_of(len(sizes), _unlike_known_fields(half, case)): True for case in others})
    return family_of(len(sizes), least_masks(meeting_masks(len(sizes), masks)))


def _unlike_known_fields(half, case):
    """The list of the known fields of a half case in which a case has another value."""
    return [field for field in range(len(half)) if half[field] is not None and half[field] != case[field]]


def _find_missing_sets(sizes, form, half):
    """The family of the least sets of unknown fields such that some values of them make the answer sure."""
    unknown = unknown_fields(half)
    open_sizes = [sizes[field] for field in unknown]
    results = answers_completing(sizes, form, half)
    rules = primes_of_answers(open_sizes, results, True) + primes_of_answers(open_sizes, results, False)
    masks = [mask_of(len(sizes), [unknown[at] for at, _ in rule]) for rule in rules]
    return family_of(len(sizes), least_masks(masks))
