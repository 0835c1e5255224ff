"""Rows: what a page tells of counts, and papers, by which not all rows are so of any."""

from math import lcm

from anyasked.errors import BadRows
from anyasked.kinds import is_fraction, is_integer
from anyasked.shares import stretch
from anyasked.tables import is_counts

WORDS = ("least", "more")


def weights_of(page, terms):
    """For each end the sum of the weights of the parts to which it belongs, terms being pairs (part, weight)."""
    among = [(page.ends_of(part), weight) for part, weight in terms]
    return tuple([sum([weight for ends, weight in among if end in ends]) for end in page.ends])


def rows(page):
    """All rows of a page, in sequence."""
    first = page.parts[0]
    found = [(weights_of(page, ((end, 1),)), "least") for end in page.ends]
    found.append((weights_of(page, ((first, 1),)), "more"))
    for part in page.parts[1:]:
        above, share, far = page[part]
        found.extend(rows_of_share(page, part, above, share))
        found.extend(rows_of_share(page, part, first, far))
    return tuple(found)


def rows_of_share(page, part, whole, share):
    """The rows of the share of a part in a whole; none if it is not told."""
    if share is None:
        return []
    low, is_low, high, is_high = stretch(page.units, share)
    return [
        (weights_of(page, ((whole, 1),)), "more"),
        (weights_of(page, ((part, low[1]), (whole, -low[0]))), word_of(is_low)),
        (weights_of(page, ((whole, high[0]), (part, -high[1]))), word_of(is_high)),
    ]


def word_of(is_reached):
    """The word of a row whose sum may be 0, or may not."""
    return "least" if is_reached else "more"


def is_row(page, value):
    """Whether any value is a row for the ends of a page."""
    if not isinstance(value, tuple) or len(value) != 2:
        return False
    weights, word = value
    if not isinstance(weights, tuple) or len(weights) != len(page.ends):
        return False
    return all([is_integer(weight) for weight in weights]) and word in WORDS


def is_so(row, counts):
    """Whether a row is so of counts."""
    weights, word = row
    found = sum([weight * count for weight, count in zip(weights, counts)])
    return found > 0 or (found == 0 and word == "least")


def are_so(page, more, value):
    """Whether any value is counts of which all rows of a page, and more behind them, are so."""
    return is_counts(page, value) and all([is_so(row, value) for row in rows(page) + more])


def is_paper(page, more, value):
    """Whether any value is a paper for the rows of a page with more behind them."""
    if not isinstance(more, tuple) or not all([is_row(page, row) for row in more]):
        raise BadRows(more)
    found = rows(page) + more
    if not are_pairs(value, len(found)):
        return False
    if not any([found[number][1] == "more" for number, weight in value]):
        return False
    return all([total <= 0 for total in totals_of(found, value, len(page.ends))])


def are_pairs(value, many):
    """Whether any value is an ascending tuple of pairs, each of the number of one of so many rows and a weight."""
    if not isinstance(value, tuple) or not all([is_pair(pair, many) for pair in value]):
        return False
    numbers = [number for number, weight in value]
    return all([here < behind for here, behind in zip(numbers, numbers[1:])])


def is_pair(value, many):
    """Whether any value is a pair of the number of one of so many rows and a weight."""
    if not isinstance(value, tuple) or len(value) != 2:
        return False
    number, weight = value
    return is_integer(number) and 0 <= number < many and is_fraction(weight) and weight[0] > 0


def totals_of(found, pairs, ends):
    """For each end its sum in these rows, each times its weight, all times the same integer above 0."""
    common = 1
    for number, (over, under) in pairs:
        common = lcm(common, under)
    times = [(found[number][0], over * (common // under)) for number, (over, under) in pairs]
    return [sum([weights[end] * many for weights, many in times]) for end in range(ends)]
