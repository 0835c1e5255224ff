"""Tables: how many people are in each end of a page."""

from anyasked.errors import BadCounts, BadTimes, NoAbove, NoPart, OtherPage
from anyasked.kinds import is_integer, least_terms
from anyasked.shares import shown

MOST_TIMES = 9999


class Table:
    """A table: counts of a page."""

    def __init__(self, page, counts):
        if not is_counts(page, counts):
            raise BadCounts(counts)
        self._page = page
        self._counts = counts
        self._many = {part: many_in(page, counts, part) for part in page.parts}

    @property
    def page(self):
        """The page of which the counts are."""
        return self._page

    @property
    def counts(self):
        """How many are in each end, in sequence."""
        return self._counts

    @property
    def total(self):
        """How many were asked."""
        return sum(self._counts)

    @property
    def fits(self):
        """Whether each told share is right."""
        return all([self._is_told_rightly(part) for part in self._page.parts])

    def __getitem__(self, at):
        if at not in self._page:
            raise NoPart(at)
        return self._many[at]

    def __iter__(self):
        raise TypeError("a table is not gone over: take its counts")

    def __eq__(self, other):
        return isinstance(other, Table) and self._page == other._page and self._counts == other._counts

    def __add__(self, other):
        if not isinstance(other, Table):
            return NotImplemented
        if self._page != other._page:
            raise OtherPage(other)
        return Table(self._page, tuple([here + there for here, there in zip(self._counts, other._counts)]))

    def __mul__(self, other):
        return self._times(other)

    def __rmul__(self, other):
        return self._times(other)

    def share(self, part, other):
        """How many of part there are for each of other, None if nobody is in other."""
        many, whole = self[part], self[other]
        if whole == 0:
            return None
        return least_terms(many, whole)

    def shows(self, part):
        """The integers by which the part's share of the part above, and of the first part, are shown."""
        many, above = self[part], self._page[part][0]
        if above is None:
            raise NoAbove(part)
        units, whole = self._page.units, self[above]
        near = None
        if whole > 0:
            near = shown(units, many, whole)
        return near, shown(units, many, self.total)

    def _times(self, many):
        if not is_integer(many) or not 1 <= many <= MOST_TIMES:
            raise BadTimes(many)
        return Table(self._page, tuple([many * count for count in self._counts]))

    def _is_told_rightly(self, part):
        above, share, far = self._page[part]
        if above is None:
            return True
        units, many = self._page.units, self[part]
        return is_right(units, share, many, self[above]) and is_right(units, far, many, self.total)


def is_counts(page, value):
    """Whether any value is counts of a page."""
    if not isinstance(value, tuple) or len(value) != len(page.ends):
        return False
    if not all([is_integer(count) and count >= 0 for count in value]):
        return False
    return sum(value) > 0


def many_in(page, counts, part):
    """How many are in a part by these counts."""
    among = page.ends_of(part)
    return sum([count for end, count in zip(page.ends, counts) if end in among])


def is_right(units, share, many, whole):
    """Whether a share, or None for what is not told, is right of so many of so many."""
    if share is None:
        return True
    if whole == 0:
        return False
    if share == "none":
        return many == 0
    if share == "some":
        return 0 < units[0] * many < whole
    return shown(units, many, whole) == share
