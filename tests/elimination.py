"""Whether rows are all so of any counts, by elimination of one end after the other: for pages of few ends."""

from math import gcd


def reduced(weights):
    common = gcd(*weights)
    return tuple(weight // common for weight in weights) if common else weights


def without(found, end):
    """The rows, of the other ends, that are so just where this end can be chosen so that all these rows are so."""
    kept = {row for row in found if row[0][end] == 0}
    for low, low_word in found:
        for high, high_word in found:
            if low[end] > 0 > high[end]:
                joined = tuple(low[end] * there - high[end] * here for here, there in zip(low, high))
                kept.add((reduced(joined), "more" if "more" in (low_word, high_word) else "least"))
    return kept


def can_be(found):
    """Whether any counts, or fractions, are such that all these rows are so; negative ones are barred by rows."""
    found = {(reduced(weights), word) for weights, word in found}
    for end in range(len(next(iter(found))[0])):
        found = without(found, end)
    return all(word == "least" for _, word in found)
