"""What is right to tell of the ratio of two parts, by the tests' own reckoning."""

from fractions import Fraction

from tests.reckoning import belongs, fits, is_counts, is_kind, is_paper, many_in, rows_of


def row_for(page, weighed, word):
    """The row of the sum of parts, each with its weight, in which a part may stand twice."""
    sums = (sum(weight for part, weight in weighed if belongs(page, end, part)) for end in page.ends)
    return tuple(sums), word


def nearly_fits(page, counts):
    """Whether all rows of a page are so with "least" in the place of "more"."""
    return all(sum(weight * many for weight, many in zip(row, counts)) >= 0 for row, _ in rows_of(page))


def is_fraction(value):
    if not is_kind(value, tuple) or len(value) != 2 or not all(is_kind(number, int) for number in value):
        return False
    if value[0] < 0 or value[1] < 1:
        return False
    exact = Fraction(*value)
    return (exact.numerator, exact.denominator) == value


def is_side(page, part, other, sign, value):
    """Whether any value is right to tell of the low bound (sign 1), or of the high one (sign -1)."""
    if not is_kind(value, tuple) or len(value) != 4 or not is_fraction(value[0]) or not is_kind(value[1], bool):
        return False
    (over, under), is_reached, counts, paper = value
    if not is_counts(page, counts) or not (fits if is_reached else nearly_fits)(page, counts):
        return False
    whole = many_in(page, counts, other)
    if whole == 0 or Fraction(many_in(page, counts, part), whole) != Fraction(over, under):
        return False
    last = row_for(page, ((other, sign * over), (part, -sign * under)), "more" if is_reached else "least")
    return is_paper(rows_of(page) + (row_for(page, ((other, 1),), "more"), last), paper)


def is_endless(page, part, other, value):
    """Whether any value is right to tell that there is no high bound."""
    if not is_kind(value, tuple) or len(value) != 2 or not is_kind(value[0], tuple) or value[0]:
        return False
    counts = value[1]
    if not is_counts(page, counts) or not nearly_fits(page, counts):
        return False
    return many_in(page, counts, other) == 0 and many_in(page, counts, part) > 0


def is_right(page, part, other, value):
    """Whether any value is right to tell of a ratio, if somebody is in other in some table that fits."""
    if not is_kind(value, tuple) or len(value) != 2:
        return False
    if not is_side(page, part, other, 1, value[0]):
        return False
    return is_side(page, part, other, -1, value[1]) or is_endless(page, part, other, value[1])


def lies_within(found, exact):
    """Whether a Fraction lies within the bounds that are told."""
    low, high = found
    least = Fraction(*low[0])
    if exact < least or (exact == least and not low[1]):
        return False
    if high[0] == ():
        return True
    most = Fraction(*high[0])
    return exact < most or (exact == most and high[1])
