"""The least ratio of two sums of counts by rows, exactly.

How many are in a part, for each of another one, is at least a share if the share, times the ends of the other part,
and the rows, each times a weight from 0 on, sum to at most 1 for each end of the part, to at most 0 for each other
end. The greatest share of which this can be so is the least ratio. The simplex method finds it, by integers alone,
from the share 0 on; and the counts by which the ratio is no greater stand in the last line of its grid.

Grid, lines and columns are what deciding tells of them. The names are the share, the weights of the rows, and then
for each end what is missing there; the grid has one more column, which tells how far the sums may go, less than 0.
"""

from math import gcd

from anyasked.deciding import least_named, turned
from anyasked.kinds import least_terms


def least_ratio(found, over, under):
    """(ratio, counts): the least ratio of the sum by over to that by under, and counts that have it; None if none do.

    This is of all counts of which these rows are so with "least", the sum by under being above 0. The weights of both
    sums are 0 and 1.
    """
    many = len(found)
    grid = [
        [under[end]] + [weights[end] for weights, word in found] + [-over[end]]
        for end in range(len(over))
    ]
    grid.append([-1] + [0] * many + [0])
    columns = list(range(many + 1))
    lines = list(range(many + 1, many + 1 + len(over)))
    common = 1
    while True:
        into = least_named(columns, [at for at in range(len(columns)) if grid[-1][at] < 0])
        if into is None:
            return least_terms(-grid[-1][-1], common), counts_at_columns(grid[-1], columns, many + 1, len(over))
        out = first_stop(grid, lines, into)
        if out is None:
            return None
        pivot = grid[out][into]
        grid = turned(grid, out, into, common)
        columns[into], lines[out] = lines[out], columns[into]
        common = pivot


def first_stop(grid, lines, into):
    """The line by which the name at this column can grow least, of such lines that with the least name; or None."""
    best = None
    for at in range(len(lines)):
        if grid[at][into] > 0 and (best is None or stops_ahead(grid, lines, into, at, best)):
            best = at
    return best


def stops_ahead(grid, lines, into, at, other):
    """Whether one line is taken ahead of another one; that with the least name of equal ones, so that it ends."""
    here = grid[at][-1] * grid[other][into]
    there = grid[other][-1] * grid[at][into]
    return here > there or (here == there and lines[at] < lines[other])


def counts_at_columns(last, columns, first_end, ends):
    """The counts that the last line tells at what is missing for the ends, as integers as small as can be."""
    told = dict(zip(columns, last))
    counts = [told.get(first_end + end, 0) for end in range(ends)]
    common = 0
    for count in counts:
        common = gcd(common, count)
    return tuple([count // common for count in counts])
