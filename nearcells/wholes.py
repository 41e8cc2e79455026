"""Whole numbers, and fractions of them."""

from math import gcd


def is_integer(value):
    """Whether a value is an integer; True and False are none."""
    return isinstance(value, int) and not isinstance(value, bool)


def sign(number):
    """1, 0 or -1 for a number above 0, for 0, and for one below 0."""
    if number == 0:
        return 0
    return 1 if number > 0 else -1


def fraction(top, bottom):
    """The fraction top / bottom in lowest terms, for a bottom of at least 1."""
    common = gcd(top, bottom)
    return (top // common, bottom // common)


def is_less(one, other):
    """Whether a fraction is less than another one."""
    return one[0] * other[1] < other[0] * one[1]


def order_keys(fractions):
    """For each fraction an integer: they are ordered as the fractions are, and alike if these are."""
    # Unlike fractions with denominators up to d differ by at least 1 / (d * d).
    scale = max([bottom for _, bottom in fractions], default=1) ** 2
    return [top * scale // bottom for top, bottom in fractions]


def is_fraction(value):
    """Whether a value is a tuple (numerator, denominator) in lowest terms."""
    if not isinstance(value, tuple) or len(value) != 2:
        return False
    if not is_integer(value[0]) or not is_integer(value[1]):
        return False
    return value[1] >= 1 and gcd(value[0], value[1]) == 1
