"""Exact shares: between which bounds the ratio of two parts lies in all tables that fit."""

from anyasked.bounding import least_ratio
from anyasked.deciding import decided
from anyasked.errors import Empty, NoPart, NoTable
from anyasked.kinds import is_fraction
from anyasked.possible import possible
from anyasked.rows import is_paper, is_so, rows, weights_of
from anyasked.tables import is_counts

# Of the bounds the low one has the weights of its last row as they are, the high one with other signs.
LOW = 1
HIGH = -1


def ratio(page, part, other):
    """(low, high): the bounds of how many of part there are for each of other."""
    refuse(page, part, other)
    return low_of(page, part, other), high_of(page, part, other)


def shows_ratio(page, part, other, value):
    """Whether any value tells the bounds of a ratio rightly."""
    refuse(page, part, other)
    if not isinstance(value, tuple) or len(value) != 2:
        return False
    low, high = value
    if not is_bound(page, part, other, LOW, low):
        return False
    return is_bound(page, part, other, HIGH, high) or is_endless(page, part, other, high)


def refuse(page, part, other):
    """Raises the error of what is not asked of a ratio."""
    for value in (part, other):
        if value not in page:
            raise NoPart(value)
    if possible(page)[0] == "never":
        raise NoTable(None)
    if decided(rows(page) + (somebody_in(page, other),))[0] == "never":
        raise Empty(other)


def somebody_in(page, part):
    """The row by which somebody is in a part."""
    return weights_of(page, ((part, 1),)), "more"


def low_of(page, part, other):
    """The low bound."""
    found, counts = least_ratio(rows(page), ends_in(page, part), ends_in(page, other))
    return bound_of(page, part, other, LOW, found, counts)


def high_of(page, part, other):
    """The high bound: the least ratio of the other way about, turned round."""
    least = least_ratio(rows(page), ends_in(page, other), ends_in(page, part))
    # Nobody ever is in the part: any table that fits has the ratio 0, so no other counts are told.
    if least is None:
        return bound_of(page, part, other, HIGH, (0, 1), None)
    (over, under), counts = least
    if over == 0:
        return (), counts
    return bound_of(page, part, other, HIGH, (under, over), counts)


def ends_in(page, part):
    """For each end 1 if it belongs to a part, otherwise 0."""
    return weights_of(page, ((part, 1),))


def bound_of(page, part, other, side, found, near):
    """The bound with this ratio, near being counts that have it, all rows being so of them with "least"."""
    told, somebody = rows(page), somebody_in(page, other)
    beyond = weights_beyond(page, part, other, side, found)
    # Beyond the bound is none, so this row lets just the bound itself.
    word, proof = decided(told + (somebody, (beyond, "least")))
    if word == "never":
        return found, False, near, proof
    return found, True, proof, decided(told + (somebody, (beyond, "more")))[1]


def weights_beyond(page, part, other, side, found):
    """The weights of the row by which a ratio is not within this bound."""
    over, under = found
    return weights_of(page, ((other, side * over), (part, -side * under)))


def is_bound(page, part, other, side, value):
    """Whether any value tells a bound rightly."""
    if not isinstance(value, tuple) or len(value) != 4:
        return False
    found, is_reached, counts, paper = value
    if not is_fraction(found) or not isinstance(is_reached, bool):
        return False
    beyond = weights_beyond(page, part, other, side, found)
    just = ((beyond, "least"), (tuple([-weight for weight in beyond]), "least"))
    told = rows(page) if is_reached else with_least(rows(page))
    if not are_all_so(page, told + just + (somebody_in(page, other),), counts):
        return False
    return is_paper(page, (somebody_in(page, other), (beyond, "more" if is_reached else "least")), paper)


def is_endless(page, part, other, value):
    """Whether any value tells rightly that there is no high bound."""
    if not isinstance(value, tuple) or len(value) != 2 or value[0] != ():
        return False
    nobody = tuple([-weight for weight in ends_in(page, other)]), "least"
    return are_all_so(page, with_least(rows(page)) + (nobody, somebody_in(page, part)), value[1])


def with_least(found):
    """These rows with "least" in the place of "more"."""
    return tuple([(weights, "least") for weights, word in found])


def are_all_so(page, found, value):
    """Whether any value is counts of a page of which all these rows are so."""
    return is_counts(page, value) and all([is_so(row, value) for row in found])
