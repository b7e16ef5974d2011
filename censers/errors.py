"""The refusals: one class for each, all of them under CenserError."""


class CenserError(ValueError):
    """Any refusal."""


class BadMany(CenserError):
    """A count of censers that is not allowed."""


class BadWay(CenserError):
    """A row that is no way, or ways of unlike counts of censers."""


class NoCenser(CenserError):
    """A number that no censer has."""


class BadOrder(CenserError):
    """A list that is no order of all censers."""


class BadNumber(CenserError):
    """A number under which nothing stands."""


class NoLot(CenserError):
    """A number that no lot of the way has."""


class BadMark(CenserError):
    """A text that is no way's mark."""


class BadTray(CenserError):
    """Woods that make no tray."""


class NoWood(CenserError):
    """A name that the tray has not."""


class Empty(CenserError):
    """A wood of which the tray has no packet left."""


class TooFew(CenserError):
    """Fewer packets than censers are to be filled."""


class BadSaying(CenserError):
    """A row that is no saying."""


class Clash(CenserError):
    """An alike or unlike saying against the standing ones; ring is a list of the numbers of a chain."""

    def __init__(self, ring):
        self.ring = list(ring)


class NoFit(CenserError):
    """A saying that no way fits together with the standing ones; paper is a row that shows it."""

    def __init__(self, paper):
        self.paper = paper


class NoSaying(CenserError):
    """A number that no saying ever got."""


class Withdrawn(CenserError):
    """A number whose saying stands no more."""


class BadName(CenserError):
    """A text that is no listener's name."""


class Taken(CenserError):
    """A name that a listener has already."""


class Full(CenserError):
    """One listener too many."""


class NoListener(CenserError):
    """A name that no listener has."""


class UnderWay(CenserError):
    """A round is under way already."""


class NoRound(CenserError):
    """No round is under way."""


class Opened(CenserError):
    """A lid was lifted already."""


class Misfit(CenserError):
    """A way that does not fit the listener's standing sayings."""


class BadDeed(CenserError):
    """A row that is no deed."""


class Nothing(CenserError):
    """No deed to take back, or to do again."""


class BadText(CenserError):
    """A text that no book has; row is the number of the first row that is wrong."""

    def __init__(self, row):
        self.row = row
