"""What the tests reckon themselves of how many were asked."""

from fractions import Fraction
from itertools import combinations
from math import ceil, floor, gcd

from tests.reckoning import fits, is_counts, is_kind, is_right as is_right_share, reach


def counts_with(ends, total):
    """All tuples of so many integers from 0 on that sum to total."""
    if ends == 1:
        return [(total,)]
    return [(many,) + rest for many in range(total + 1) for rest in counts_with(ends - 1, total - many)]


def sets_needed(page, total, part, sets):
    """The members that the set of a part has to have by those of the parts beneath it, by the document's words."""
    lets = [many for many in range(total + 1) if is_right_share(page.units, page[part][2], many, total)]
    beneath = [other for other in page.parts[1:] if page[other][0] == part]
    if not beneath:
        return lets
    found = []
    for many in lets:
        sums = {0}
        for other in beneath:
            own = [one for one in sets[other] if is_right_share(page.units, page[other][1], one, many)]
            sums = {here + one for here in sums for one in own if here + one <= many}
        if many in sums:
            found.append(many)
    return found


def is_never(page, total, value):
    """Whether any value is sets by which there is no table with this total."""
    if not is_kind(value, tuple) or len(value) != len(page.parts):
        return False
    for numbers in value:
        if not is_kind(numbers, tuple) or not all(is_kind(number, int) for number in numbers):
            return False
        if list(numbers) != sorted(set(numbers)) or not all(0 <= number <= total for number in numbers):
            return False
    sets = dict(zip(page.parts, value))
    if total in value[0]:
        return False
    return all(set(sets_needed(page, total, part, sets)) <= set(sets[part]) for part in page.parts)


def is_right(page, total, value):
    """Whether any value is right to tell of a total."""
    if not is_kind(value, tuple) or len(value) != 2:
        return False
    if value[0] == "can":
        return bool(is_counts(page, value[1])) and sum(value[1]) == total and fits(page, value[1])
    return value[0] == "never" and is_never(page, total, value[1])


def flat_bounds(units, shares, total):
    """From how many to how many of a part these shares of all, or None, let by this total; None if they let none."""
    least, most = 0, total
    for share in shares:
        if share is None:
            continue
        low, is_low, high, is_high = reach(units, share)
        least = max(least, ceil(low * total) if is_low else floor(low * total) + 1)
        most = min(most, floor(high * total) if is_high else ceil(high * total) - 1)
    return (least, most) if least <= most else None


def can_be_flat(units, nears, fars, total):
    """Whether a total can be of a page whose parts stand right beneath the first one, by sums of what shares let."""
    bounds = [flat_bounds(units, shares, total) for shares in zip(nears, fars)]
    if None in bounds:
        return False
    return sum(least for least, _ in bounds) <= total <= sum(most for _, most in bounds)


def minor(found):
    """The determinant of a square of integers."""
    rows = [[Fraction(number) for number in row] for row in found]
    value = Fraction(1)
    for at in range(len(rows)):
        pivot = next((row for row in range(at, len(rows)) if rows[row][at] != 0), None)
        if pivot is None:
            return 0
        if pivot != at:
            rows[at], rows[pivot] = rows[pivot], rows[at]
            value = -value
        value *= rows[at][at]
        for row in range(at + 1, len(rows)):
            times = rows[row][at] / rows[at][at]
            rows[row] = [number - times * above for number, above in zip(rows[row], rows[at])]
    return int(value)


def minors(found):
    """The greatest common divisor of the determinants that take all rows and as many columns; 1 of no row."""
    if not found:
        return 1
    columns = combinations(range(len(found[0])), len(found))
    return gcd(*(minor([[row[at] for at in chosen] for row in found]) for chosen in columns))


def independent(found):
    """Some of these rows, of which all others are made."""
    kept = []
    for row in found:
        if minors(kept + [row]) != 0:
            kept.append(row)
    return kept


def step_of(forced, ends):
    """The greatest common divisor of the sums of all tuples of integers by which the sums of all these rows are 0.

    What integers make with independent rows is a lattice, whose index the minors tell; with the row of the sums behind
    them, the index is so many times as great as the least sum above 0 of what has the sums 0 by all of them.
    """
    kept = independent(forced)
    return minors(kept + [(1,) * ends]) // minors(kept)
