"""What can be: whether any counts fit a page, or two pages at once."""

from anyasked.deciding import decided
from anyasked.errors import Unlike
from anyasked.pages import Page
from anyasked.rows import are_so, is_paper, rows


def possible(page):
    """("table", counts) that fit, or ("never", paper)."""
    return decided(rows(page))


def shows_possible(page, value):
    """Whether any value tells rightly whether any counts fit a page."""
    return shows_decided(page, (), value)


def both(one, other):
    """("table", counts) that fit both, or ("never", paper)."""
    if not is_like(one, other):
        raise Unlike(other)
    return decided(rows(one) + rows(other))


def shows_both(one, other, value):
    """Whether any value tells rightly whether the same counts fit both."""
    if not is_like(one, other):
        raise Unlike(other)
    return shows_decided(one, rows(other), value)


def is_like(one, value):
    """Whether any value is a page with the same parts, each beneath the same one, in the same sequence."""
    if not isinstance(value, Page) or value.parts != one.parts:
        return False
    return all([value[part][0] == one[part][0] for part in one.parts])


def shows_decided(page, more, value):
    """Whether any value tells rightly whether the rows of a page, and more behind them, are so of any counts."""
    if not isinstance(value, tuple) or len(value) != 2:
        return False
    word, found = value
    if word == "table":
        return are_so(page, more, found)
    return word == "never" and is_paper(page, more, found)
