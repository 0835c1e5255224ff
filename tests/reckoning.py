"""What the tests reckon themselves, by Fractions, from the shares that a page tells."""

from fractions import Fraction
from itertools import product
from math import ceil, floor

HALF = Fraction(1, 2)


def rounded(how, exact):
    """A Fraction rounded, as the document says."""
    if how == "down":
        return floor(exact)
    if how == "up":
        return ceil(exact)
    if how == "near":
        return floor(exact + HALF)
    return round(exact)


def is_right(units, share, many, whole):
    """Whether a share, or None, is right of so many of so many."""
    if share is None:
        return True
    if whole == 0:
        return False
    exact = Fraction(many, whole)
    if share == "none":
        return exact == 0
    if share == "some":
        return 0 < exact < Fraction(1, units[0])
    return rounded(units[1], exact * units[0]) == share


def reach(units, share):
    """(low, is_low, high, is_high) in Fractions: what lies in it is shown by the share."""
    base, how = units
    if share == "none":
        return Fraction(0), True, Fraction(0), True
    if share == "some":
        return Fraction(0), False, Fraction(1, base), False
    before, behind = {"near": (HALF, HALF), "even": (HALF, HALF), "down": (0, 1), "up": (1, 0)}[how]
    low = max(Fraction(0), (share - before) / Fraction(base))
    high = min(Fraction(1), (share + behind) / Fraction(base))
    return low, rounded(how, low * base) == share, high, rounded(how, high * base) == share


def belongs(page, end, part):
    """Whether an end belongs to a part."""
    while end is not None and end != part:
        end = page[end][0]
    return end == part


def many_in(page, counts, part):
    return sum(many for end, many in zip(page.ends, counts) if belongs(page, end, part))


def fits(page, counts):
    """Whether counts fit a page, by the shares themselves."""
    for part in page.parts[1:]:
        above, near, far = page[part]
        many = many_in(page, counts, part)
        if not is_right(page.units, near, many, many_in(page, counts, above)):
            return False
        if not is_right(page.units, far, many, sum(counts)):
            return False
    return True


def rows_of(page):
    """The rows of a page, by the words of point 7."""
    first, ends = page.parts[0], page.ends
    found = [(tuple(int(end == other) for other in ends), "least") for end in ends]
    found.append(((1,) * len(ends), "more"))
    for part in page.parts[1:]:
        above, near, far = page[part]
        for whole, share in ((above, near), (first, far)):
            if share is None:
                continue
            low, is_low, high, is_high = reach(page.units, share)
            in_part = [int(belongs(page, end, part)) for end in ends]
            in_whole = [int(belongs(page, end, whole)) for end in ends]
            found.append((tuple(in_whole), "more"))
            found.append((
                tuple(low.denominator * x - low.numerator * y for x, y in zip(in_part, in_whole)),
                "least" if is_low else "more",
            ))
            found.append((
                tuple(high.numerator * y - high.denominator * x for x, y in zip(in_part, in_whole)),
                "least" if is_high else "more",
            ))
    return tuple(found)


def is_so(row, counts):
    weights, word = row
    found = sum(weight * many for weight, many in zip(weights, counts))
    return found >= 0 if word == "least" else found > 0


def is_kind(value, kind):
    """Whether a value is of just this kind: a bool is no int, a list no tuple."""
    return value.__class__ is kind


def is_counts(page, value):
    """Whether any value is counts of a page."""
    if not is_kind(value, tuple) or len(value) != len(page.ends):
        return False
    return all(is_kind(many, int) and many >= 0 for many in value) and any(value)


def is_paper(found, value):
    """Whether any value is a paper for these rows."""
    if not is_kind(value, tuple) or not value:
        return False
    numbers, sums = [], [Fraction(0)] * len(found[0][0])
    for pair in value:
        if not is_kind(pair, tuple) or len(pair) != 2 or not is_kind(pair[0], int) or not is_kind(pair[1], tuple):
            return False
        number, weight = pair
        if not 0 <= number < len(found) or len(weight) != 2 or not all(is_kind(part, int) for part in weight):
            return False
        if weight[0] <= 0 or weight[1] <= 0:
            return False
        exact = Fraction(*weight)
        if (exact.numerator, exact.denominator) != weight:
            return False
        numbers.append(number)
        sums = [whole + exact * own for whole, own in zip(sums, found[number][0])]
    if sorted(set(numbers)) != numbers or "more" not in [found[number][1] for number in numbers]:
        return False
    return max(sums) <= 0


def holds(page, statement, counts):
    """Whether a statement is so of counts, by how many are in its parts."""
    terms, word = statement
    found = sum(weight * many_in(page, counts, part) for part, weight in terms)
    return {"least": found >= 0, "more": found > 0, "just": found == 0}[word]


def row_of(page, statement, word, sign=1):
    """The row of a statement, or that with the other signs, with this word."""
    sums = []
    for end in page.ends:
        sums.append(sign * sum(weight for part, weight in statement[0] if belongs(page, end, part)))
    return tuple(sums), word


def small_tables(page, most):
    """All counts of a page, none of which is greater than this."""
    return [counts for counts in product(range(most + 1), repeat=len(page.ends)) if any(counts)]


def bends(value):
    """Values near this one: another kind, another number, an item less or more, at any depth."""
    yield from (None, [value], (value,), True, False)
    if is_kind(value, int):
        yield from (value + 1, value - 1, -value, 2 * value, str(value), bool(value))
    if is_kind(value, str):
        yield from ("", value + " ", value[:-1], value.upper(), "table", "never", "always", "open")
    if is_kind(value, tuple):
        yield from (list(value), value + value, value[::-1], value + (0,), ())
        for at, item in enumerate(value):
            yield value[:at] + value[at + 1:]
            yield value[:at + 1] + value[at:]
            yield from (value[:at] + (bent,) + value[at + 1:] for bent in bends(item))
