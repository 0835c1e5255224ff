"""The errors of the package, each for one kind of failure."""


class AskedError(ValueError):
    """What all errors of the package are; value is what they were created with."""

    def __init__(self, value):
        self.value = value


class BadUnits(AskedError):
    """This value is no units."""


class BadCount(AskedError):
    """This value is not as many as can be counted there."""


class BadShare(AskedError):
    """This value is no share by the units."""


class BadPage(AskedError):
    """The line with this number cannot stand in a page; 0 for what is no string."""


class NoPart(AskedError):
    """This value is the name of no part."""


class NoAbove(AskedError):
    """This part is the first one: none is above it."""


class BadCounts(AskedError):
    """This value is no counts of the page."""


class OtherPage(AskedError):
    """This table is of another page."""


class BadTimes(AskedError):
    """This value is not how often a table can be taken."""


class BadRows(AskedError):
    """This value is no rows for the ends of the page."""


class Unlike(AskedError):
    """This value is no page with the same parts."""


class BadStatement(AskedError):
    """This value is no statement of the page."""


class NoTable(AskedError):
    """No table fits the page."""


class Empty(AskedError):
    """Nobody is in this part, in no table that fits."""


class BadTotal(AskedError):
    """This value is not how many can be asked about."""


class BadOffers(AskedError):
    """This value is no offers for the page."""


class BadWishes(AskedError):
    """This value is no wishes."""


class Contrary(AskedError):
    """By this paper, no table fits the page behind the deed."""


class NothingToUndo(AskedError):
    """No deed stands."""


class NothingToRedo(AskedError):
    """No deed was taken back last."""


class NoTrial(AskedError):
    """There is no trial to keep."""


class BadJournal(AskedError):
    """The line with this number cannot stand in a journal; 0 for what is no string."""


class BadLine(AskedError):
    """This value is no line for a desk."""
