"""Shares: by what so many of so many are shown, and what is shown by a share."""

from anyasked.errors import BadCount, BadShare, BadUnits
from anyasked.kinds import is_integer, least_terms

HOWS = ("near", "even", "down", "up")
WORDS = ("none", "some")


def is_units(value):
    """Whether any value is units."""
    if not isinstance(value, tuple) or len(value) != 2:
        return False
    base, how = value
    if not is_integer(base) or not isinstance(how, str):
        return False
    return 2 <= base <= 100 and how in HOWS


def is_share(units, value):
    """Whether any value is a share by these units."""
    if isinstance(value, str):
        return value in WORDS
    return is_integer(value) and 0 <= value <= units[0]


def rounded(how, many, whole):
    """many / whole as an integer."""
    below, rest = divmod(many, whole)
    if how == "down" or rest == 0:
        return below
    if how == "up" or 2 * rest > whole:
        return below + 1
    if 2 * rest < whole:
        return below
    if how == "near":
        return below + 1
    return below + below % 2


def shown(units, many, whole):
    """The integer by which many of whole are shown."""
    if not is_units(units):
        raise BadUnits(units)
    if not is_integer(whole) or whole < 1:
        raise BadCount(whole)
    if not is_integer(many) or not 0 <= many <= whole:
        raise BadCount(many)
    base, how = units
    return rounded(how, base * many, whole)


def reach(how, number):
    """From how many halves of a unit to how many a number is shown, as if there were no least and no greatest one."""
    if how == "down":
        return 2 * number, True, 2 * number + 2, False
    if how == "up":
        return 2 * number - 2, False, 2 * number, True
    if how == "near":
        return 2 * number - 1, True, 2 * number + 1, False
    is_even = number % 2 == 0
    return 2 * number - 1, is_even, 2 * number + 1, is_even


def stretch(units, share):
    """(low, is_low, high, is_high): the fractions from 0 to 1 that a share shows."""
    if not is_units(units):
        raise BadUnits(units)
    if not is_share(units, share):
        raise BadShare(share)
    base, how = units
    if share == "none":
        return (0, 1), True, (0, 1), True
    if share == "some":
        return (0, 1), False, (1, base), False
    low, is_low, high, is_high = reach(how, share)
    whole = 2 * base
    # Nobody and all are shown by the share whose reach is cut there.
    return (
        least_terms(max(low, 0), whole),
        is_low or low < 0,
        least_terms(min(high, whole), whole),
        is_high or high > whole,
    )
