"""What several files ask of values: integers, names, fractions, numbers in lines."""

from math import gcd


def is_integer(value):
    """Whether any value is an integer; a bool is none."""
    return isinstance(value, int) and not isinstance(value, bool)


def is_name(value):
    """Whether any value is a string of 1 to 8 letters a to z."""
    if not isinstance(value, str) or not 1 <= len(value) <= 8:
        return False
    return value.isascii() and value.isalpha() and value.islower()


def least_terms(over, under):
    """The fraction over / under, under being at least 1."""
    common = gcd(over, under)
    return over // common, under // common


def is_fraction(value):
    """Whether any value is a fraction: a pair in least terms, from 0 on."""
    if not isinstance(value, tuple) or len(value) != 2:
        return False
    over, under = value
    if not is_integer(over) or not is_integer(under):
        return False
    return over >= 0 and under >= 1 and gcd(over, under) == 1


def read_number(word, most):
    """The integer from 0 to most that a word writes in decimal, or None."""
    # What is longer than the greatest one is not read: int refuses very long words.
    if not word.isdecimal() or len(word) > len(str(most)):
        return None
    number = int(word)
    # Leading zeros do not come back.
    if str(number) != word or number > most:
        return None
    return number
