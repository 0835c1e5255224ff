"""Sheets: pages on which figures are put, taken back, and tried."""

from anyasked.errors import Contrary, NothingToRedo, NothingToUndo, NoTable, NoTrial
from anyasked.holding import judged
from anyasked.possible import possible


class Sheet:
    """A sheet: a page, the deeds that changed it, and those that were taken back."""

    def __init__(self, page):
        # Tuples alone, never changed in place: what a trial or a copy holds stays as it is.
        self._pages = (page,)
        self._deeds = ()
        self._undone = ()
        self._block = None

    @property
    def page(self):
        """The page as it is now."""
        return self._pages[-1]

    @property
    def first(self):
        """The page as it was at first."""
        return self._pages[0]

    @property
    def done(self):
        """How many deeds stand."""
        return len(self._deeds)

    @property
    def deeds(self):
        """The deeds that stand, in sequence: ("tell", part, share), ("far", part, share), ("drop", part)."""
        return self._deeds

    def __len__(self):
        return len(told_shares(self._pages[-1]))

    def __contains__(self, x):
        return x in self._pages[-1]

    def __getitem__(self, at):
        return self._pages[-1][at]

    def __setitem__(self, at, worth):
        self.tell(at, worth)

    def __iter__(self):
        raise TypeError("a sheet is not gone over: take the parts of its page")

    def __eq__(self, other):
        if not isinstance(other, Sheet):
            return False
        return self._pages[0] == other._pages[0] and self._pages[-1] == other._pages[-1]

    def tell(self, part, share):
        """Tells the part's share of the part above; None: not told."""
        self._do(("tell", part, share), self.page.told(part, share))

    def tell_far(self, part, share):
        """Tells the part's share of the first part; None: not told."""
        self._do(("far", part, share), self.page.told_far(part, share))

    def drop(self, part):
        """Tells both shares of the part no more."""
        self._do(("drop", part), self.page.told(part, None).told_far(part, None))

    def judged(self, statement):
        """The word that judged tells of the page now."""
        return judged(self.page, statement)[0]

    def news(self, statement):
        """The words that judged told at first and behind each deed, "none" where no table fits."""
        return tuple([word_of(page, statement) for page in self._pages])

    def undo(self):
        """Takes the last deed back."""
        if not self._deeds:
            raise NothingToUndo(None)
        self._undone = self._undone + ((self._deeds[-1], self._pages[-1]),)
        self._deeds = self._deeds[:-1]
        self._pages = self._pages[:-1]

    def redo(self):
        """Does the deed again that was taken back last."""
        if not self._undone:
            raise NothingToRedo(None)
        deed, page = self._undone[-1]
        self._undone = self._undone[:-1]
        self._deeds = self._deeds + (deed,)
        self._pages = self._pages + (page,)

    def trial(self):
        """A block for `with`, behind which the sheet is as ahead of it, unless it is kept."""
        return Trial(self)

    def keep(self):
        """Keeps what is done in the innermost block."""
        if self._block is None:
            raise NoTrial(None)
        block = self._block
        block.kept = True

    def tried(self, look, *, keep=False):
        """What look returns for the sheet within a block, which is kept if keep is True."""
        block = Trial(self)
        with block:
            found = look(self)
            if keep is True:
                block.kept = True
        return found

    def copy(self):
        """An independent sheet, alike in all things, outside of all blocks."""
        other = Sheet(self._pages[0])
        other._pages = self._pages
        other._deeds = self._deeds
        other._undone = self._undone
        return other

    def _do(self, deed, page):
        word, found = possible(page)
        if word == "never":
            raise Contrary(found)
        self._pages = self._pages + (page,)
        self._deeds = self._deeds + (deed,)
        self._undone = ()


class Trial:
    """A block of a sheet. kept is True if it is kept, otherwise None."""

    def __init__(self, sheet):
        self._sheet = sheet
        self.kept = None

    def __enter__(self):
        sheet = self._sheet
        self._outer = sheet._block
        self._pages = sheet._pages
        self._deeds = sheet._deeds
        self._undone = sheet._undone
        sheet._block = self
        return sheet

    def __exit__(self, kind, value, trace):
        sheet = self._sheet
        sheet._block = self._outer
        if kind is not None or self.kept is None:
            sheet._pages = self._pages
            sheet._deeds = self._deeds
            sheet._undone = self._undone


def told_shares(page):
    """The shares that a page tells, of the parts above and of the first part."""
    return [share for part in page.parts for share in page[part][1:] if share is not None]


def word_of(page, statement):
    """The word that judged tells of a page, "none" if no table fits it."""
    try:
        return judged(page, statement)[0]
    except NoTable:
        return "none"
