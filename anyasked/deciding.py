"""Deciding whether rows are so of any counts, exactly.

The sum of a row with "least" is called its slack; that of a row with "more" is its slack and a margin, the same for
all rows. Counts, slacks and the margin are to be 0 or more. If the margin can then be above 0, all rows are so of
these counts; if it cannot, the rows by which it cannot, with weights, are a paper. Which of both is found by the
simplex method, by integers alone.

Counts, margin and slacks go by numbers as names: first the counts, then the margin, then the slacks. At first a grid
has a line for each slack, and a column for each of the counts and for the margin; names at lines and at columns
change places from step to step. In each line, the name there, times one integer above 0 that all lines have in
common, and the names at the columns, each times the number that stands there, sum to 0. The last line tells the
margin likewise, wherever its name stands.
"""

from math import gcd

from anyasked.kinds import least_terms


def decided(rows):
    """("table", counts) of which all rows are so, one being 1 for all and "more", or ("never", a paper for them)."""
    ends = len(rows[0][0])
    grid = [[-weight for weight in weights] + [int(word == "more")] for weights, word in rows]
    grid.append([0] * ends + [-1])
    columns = list(range(ends + 1))
    lines = list(range(ends + 1, ends + 1 + len(rows)))
    under = 1
    while True:
        into = least_named(columns, [at for at, number in enumerate(grid[-1]) if number < 0])
        if into is None:
            return "never", paper_in(grid[-1], columns, under, ends)
        out = least_named(lines, [at for at, line in enumerate(grid[:-1]) if line[into] > 0])
        if out is None:
            return "table", counts_in(grid, columns, lines, into, under, ends)
        pivot = grid[out][into]
        grid = turned(grid, out, into, under)
        columns[into], lines[out] = lines[out], columns[into]
        under = pivot


def least_named(names, places):
    """The one of these places with the least name, so that no grid comes twice; None if there is none."""
    return min(places, key=lambda place: names[place], default=None)


def turned(grid, out, into, under):
    """The grid in which the name at a line and that at a column stand in each other's place."""
    through = grid[out]
    pivot = through[into]
    found = []
    for line in grid:
        times = line[into]
        # These divisions leave no rest: each number is a determinant of a part of the first grid.
        changed = [(number * pivot - times * across) // under for number, across in zip(line, through)]
        changed[into] = -times
        found.append(changed)
    found[out] = list(through)
    found[out][into] = under
    return found


def counts_in(grid, columns, lines, into, under, ends):
    """The counts that grow with what stands at this column, as integers as small as can be."""
    growing = {name: -line[into] for name, line in zip(lines, grid)}
    growing[columns[into]] = under
    counts = [growing.get(end, 0) for end in range(ends)]
    common = 0
    for count in counts:
        common = gcd(common, count)
    return tuple([count // common for count in counts])


def paper_in(last, columns, under, ends):
    """The paper that the line of the margin tells: what stands there at the slacks."""
    found = [(name - ends - 1, number) for name, number in zip(columns, last) if name > ends and number > 0]
    return tuple([(row, least_terms(number, under)) for row, number in sorted(found)])
