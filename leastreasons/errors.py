"""The errors of the package, one class for each kind of failure."""


class ReasonError(ValueError):
    """Every error of this package."""


class InvalidSizes(ReasonError):
    """A value is not the sizes of a sheet."""


class InvalidForm(ReasonError):
    """A value is not a form of the sheet."""


class InvalidCase(ReasonError):
    """A value is not a case of the sheet."""


class InvalidHalf(ReasonError):
    """A value is not a half case of the sheet."""


class InvalidField(ReasonError):
    """A value is not a field of the sheet."""


class InvalidFields(ReasonError):
    """A value is not the list of fields that is asked for."""


class InvalidCosts(ReasonError):
    """A value is not a list with a cost for each field."""


class InvalidAnswer(ReasonError):
    """A value is neither True nor False."""


class InvalidIndex(ReasonError):
    """A value is not one of the numbers that are asked for."""


class InvalidFamily(ReasonError):
    """A value is not a family of sets."""


class InvalidMembers(ReasonError):
    """A value is not a set."""


class InvalidValue(ReasonError):
    """A value is not one of the values of the field."""


class InvalidConditions(ReasonError):
    """A value is not the conditions of a rule."""


class InvalidCommand(ReasonError):
    """A value is not a command of the console."""


class InvalidText(ReasonError):
    """A text has a word that cannot stand at this place."""

    def __init__(self, place):
        super().__init__("a word of the text cannot stand at its place")
        self.place = place


class NotSmall(ReasonError):
    """The sheet has more cases than can be gone through."""


class NoTree(ReasonError):
    """A form is not a plain tree."""


class NoCard(ReasonError):
    """A form is not a card."""


class NoRules(ReasonError):
    """A form is not a list of rules."""


class NoReason(ReasonError):
    """A set of fields is not a reason."""


class NoTurn(ReasonError):
    """There is no turn."""


class NotYes(ReasonError):
    """The answer for a case is no."""


class OtherSheet(ReasonError):
    """Two deciders are on unlike sheets."""


class NothingToUndo(ReasonError):
    """There is no deed that can be taken back."""
