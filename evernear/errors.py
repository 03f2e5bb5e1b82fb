"""The errors that the program raises."""


class NearError(ValueError):
    """The base class of all errors that the program raises."""


class BadSize(NearError):
    """A town has a wrong number of places, or there is a wrong number of chances."""


class BadRoad(NearError):
    """The road at this position is wrong."""

    def __init__(self, at):
        self.at = at


class BadText(NearError):
    """The word at this line and column, both from 1 on, is wrong or missing."""

    def __init__(self, line, column):
        self.line = line
        self.column = column


class BadCall(NearError):
    """The call at this position comes from no place of the town."""

    def __init__(self, at):
        self.at = at


class BadNumber(NearError):
    """A chance is not as told, or the chances together are not 1."""


class BadStand(NearError):
    """A house was to be made with what is no stand of its town."""


class BadPlace(NearError):
    """A call was told from what is no place of the town."""


class NoAnswer(NearError):
    """The stand has no answer to the call."""


class NotAnswer(NearError):
    """The told stand is none of the answers to the call."""


class NoRoad(NearError):
    """There is no road between the two places."""


class NothingToUndo(NearError):
    """No deed is in force."""


class NothingToRedo(NearError):
    """No undone deed can be done again."""


class BadEntry(NearError):
    """The entry of a journal at this position raises an error."""

    def __init__(self, at):
        self.at = at
