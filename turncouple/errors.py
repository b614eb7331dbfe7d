"""The refusals of the package, a class for each kind."""


class TurnError(ValueError):
    """What is handed in is none of what was asked for."""


class NoNumber(TurnError):
    """No number of the kind asked for."""


class NoSize(TurnError):
    """No size."""


class NoOffset(TurnError):
    """No offset of its size."""


class NoTriple(TurnError):
    """No triple."""


class NoTable(TurnError):
    """No three rows of three."""


class TooWide(TurnError):
    """More than is worked out."""


class NoNet(TurnError):
    """No net of threes."""


class NoRow(TurnError):
    """No row of sizes."""


class NoStanding(TurnError):
    """No standing."""


class NoTree(TurnError):
    """No tree."""


class NoWay(TurnError):
    """No way from tree to tree."""


class NoHalf(TurnError):
    """No half of a turning."""


class NoLinking(TurnError):
    """No linking of two sizes."""


class NoDeed(TurnError):
    """No deed of a bench."""


class NoQuestion(TurnError):
    """No question to a bench."""


class Empty(TurnError):
    """An outcome without a share."""


class NotParted(TurnError):
    """Turns that can't be taken out."""


class NoText(TurnError):
    """A text that is not as this package writes it; row is the first row that is wrong."""

    def __init__(self, row):
        TurnError.__init__(self, f"row {row} is not as it is written")
        self.row = row


class NoName(KeyError):
    """A turn or version that isn't there; name is what was asked for."""

    def __init__(self, name):
        # The name may be anything at all, so the message doesn't show it.
        KeyError.__init__(self, "no such name, or not here")
        self.name = name


class NoPlace(IndexError):
    """No place in a list."""


class ByNought(ZeroDivisionError):
    """Something over 0."""


class NothingDone(LookupError):
    """Nothing to take back, or to do again."""
