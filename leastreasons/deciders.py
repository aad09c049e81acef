"""Deciders: a form on a small sheet as an object that is called, combined and compared, and may count its calls."""

from leastreasons.compare import are_alike, is_within, yes_places
from leastreasons.errors import OtherSheet
from leastreasons.forms import all_answers, check_small_form, says
from leastreasons.reasons import find_reasons, find_turns
from leastreasons.sheets import case_of_place, check_case, is_case, place_of_case


class Decider:
    """A form on a small sheet; only the in-place operators change it."""

    def __init__(self, sizes, form):
        check_small_form(sizes, form)
        self._sizes = list(sizes)
        self._form = form

    @property
    def sizes(self):
        """The sizes of the sheet."""
        return list(self._sizes)

    @property
    def form(self):
        """The form."""
        return self._form

    @classmethod
    def of_card(cls, sizes, *weights, bound=0):
        """The decider with the card of these weights, one tuple for each field."""
        return cls(sizes, ("card", weights, bound))

    @classmethod
    def of_rules(cls, sizes, *rules, last=False):
        """The decider with these rules."""
        return cls(sizes, ("rules", rules, last))

    def __call__(self, case):
        """The answer for the case."""
        check_case(self._sizes, case)
        self._note_call(case)
        return says(self._sizes, self._form, case)

    def __contains__(self, x):
        """Whether any value is a case with yes."""
        return is_case(self._sizes, x) and says(self._sizes, self._form, x)

    def __and__(self, other):
        """The decider that says yes where both do."""
        _check_same_sheet(self._sizes, other._sizes)
        return Decider(self._sizes, ("and", (self._form, other._form)))

    def __or__(self, other):
        """The decider that says yes where one of both does, or both do."""
        _check_same_sheet(self._sizes, other._sizes)
        return Decider(self._sizes, ("or", (self._form, other._form)))

    def __xor__(self, other):
        """The decider that says yes where exactly one of both does."""
        _check_same_sheet(self._sizes, other._sizes)
        return Decider(self._sizes, ("odd", (self._form, other._form)))

    def __invert__(self):
        """The decider with the other answers."""
        return Decider(self._sizes, ("not", self._form))

    def __iand__(self, other):
        """Make this the decider that says yes where both do."""
        _check_same_sheet(self._sizes, other._sizes)
        self._form = ("and", (self._form, other._form))
        return self

    def __ior__(self, other):
        """Make this the decider that says yes where one of both does, or both do."""
        _check_same_sheet(self._sizes, other._sizes)
        self._form = ("or", (self._form, other._form))
        return self

    def __ixor__(self, other):
        """Make this the decider that says yes where exactly one of both does."""
        _check_same_sheet(self._sizes, other._sizes)
        self._form = ("odd", (self._form, other._form))
        return self

    def __eq__(self, other):
        """Whether any value is a decider on equal sizes with the same answers."""
        if not isinstance(other, Decider):
            return False
        return self._sizes == other._sizes and are_alike(self._sizes, self._form, other._form)

    def __ne__(self, other):
        """Whether any value is no decider on equal sizes with the same answers."""
        return not self == other

    def __le__(self, other):
        """Whether the other one says yes wherever this one does."""
        _check_same_sheet(self._sizes, other._sizes)
        return is_within(self._sizes, self._form, other._form)

    def __lt__(self, other):
        """Whether the other one says yes wherever this one does, and somewhere else."""
        return self <= other and self != other

    def __bool__(self):
        """Whether some case has yes."""
        return True in all_answers(self._sizes, self._form)

    def reasons(self, case):
        """The family of the least sets of fields that force the answer for the case."""
        check_case(self._sizes, case)
        return find_reasons(self._sizes, self._form, case)

    def turns(self, case):
        """The family of the least sets of fields that can turn the answer for the case."""
        check_case(self._sizes, case)
        return find_turns(self._sizes, self._form, case)

    def yes_cases(self):
        """Iterate over the cases with yes, ascending."""
        for place in yes_places(self._sizes, self._form):
            yield case_of_place(self._sizes, place)

    def _note_call(self, case):
        """Note a call that raised no error; a plain decider notes nothing."""


class CountingDecider(Decider):
    """A decider that counts the calls that ask it for an answer."""

    def __init__(self, sizes, form):
        super().__init__(sizes, form)
        self._asked = 0

    @property
    def asked(self):
        """How many calls were made."""
        return self._asked

    def _note_call(self, case):
        """Count the call."""
        self._asked += 1
        super()._note_call(case)


class NotingDecider(Decider):
    """A decider that notes the cases of the calls that ask it for an answer."""

    def __init__(self, sizes, form):
        super().__init__(sizes, form)
        # A dict keeps its keys in the sequence in which they came first.
        self._places = {}

    @property
    def noted(self):
        """The list of the cases of the calls, each once, in the sequence of their first calls."""
        return [case_of_place(self._sizes, place) for place in self._places]

    def _note_call(self, case):
        """Note the case of the call."""
        self._places[place_of_case(self._sizes, case)] = True
        super()._note_call(case)


class CountingNotingDecider(CountingDecider, NotingDecider):
    """A decider that counts the calls that ask it for an answer, and notes their cases."""

    def __init__(self, sizes, form):
        super().__init__(sizes, form)


def common(first, *more):
    """The decider that says yes where all of some deciders on one sheet do."""
    sizes = first.sizes
    for other in more:
        _check_same_sheet(sizes, other.sizes)
    return Decider(sizes, ("and", tuple([one.form for one in [first, *more]])))


def _check_same_sheet(sizes, other_sizes):
    """Raise OtherSheet unless the sizes of two deciders are equal."""
    if sizes != other_sizes:
        raise OtherSheet("the deciders are on unlike sheets")
