"""The errors of the package."""


class SpinError(ValueError):
    """Any error of the package."""


class InvalidTerm(SpinError):
    """A value is not a term."""


class InvalidRules(SpinError):
    """A value is not a list of rules."""


class InvalidPrices(SpinError):
    """A value is not a list of prices."""


class InvalidPrice(SpinError):
    """A value is not a price."""


class InvalidNumber(SpinError):
    """A value is not a number that may stand there."""


class InvalidShop(SpinError):
    """A value is not the number of a shop."""


class TooMany(SpinError):
    """There is more to go through than the program goes through."""


class InvalidText(SpinError):
    """A text is not that of a term; at is the place where it goes wrong."""

    # No message is made here: at may have more digits than Python writes out.
    def __init__(self, at):
        self.at = at


class InvalidOrder(SpinError):
    """A value is not an order of repricings."""


class InvalidLog(SpinError):
    """A value is not a log."""


class InvalidLimits(SpinError):
    """A value is not a list of limits."""


class NotQuiet(SpinError):
    """Prices are not quiet."""


class NothingToUndo(SpinError):
    """There is no deed to take back."""


class NothingToRedo(SpinError):
    """There is no deed to do again."""


class UnknownDeed(SpinError):
    """A value is not a deed."""


class InvalidLine(SpinError):
    """A text is not that of a market; line is the wrong line, reason what is wrong with it."""

    def __init__(self, line, reason):
        self.line = line
        self.reason = reason


class InvalidKind(SpinError):
    """A value is not the kind of a simple rule."""


class InvalidSeen(SpinError):
    """A value is not a list of what was seen."""
