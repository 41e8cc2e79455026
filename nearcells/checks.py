"""What is asked of the arguments that a caller passes.

Only the outermost tuple is looked at, and nothing is compared or hashed
before it is known to be an integer: so arguments may be nested deep.
"""

from math import gcd

from nearcells.errors import InvalidBound
from nearcells.wholes import is_integer

FARTHEST_NUMBER = 1000000


def is_site(value):
    """Whether a value is a tuple (x, y) of two integers within the bounds."""
    if not isinstance(value, tuple) or len(value) != 2:
        return False
    return is_coordinate(value[0]) and is_coordinate(value[1])


def is_coordinate(value):
    """Whether a value may be one of the two numbers of a site."""
    return is_integer(value) and abs(value) <= FARTHEST_NUMBER


def is_place(value):
    """Whether a value is a tuple (x, y, d) in lowest terms, d at least 1."""
    if not isinstance(value, tuple) or len(value) != 3:
        return False
    x, y, d = value
    if not (is_short(x) and is_short(y) and is_short(d)):
        return False
    return d >= 1 and gcd(gcd(x, y), d) == 1


def is_short(value):
    """Whether a value is an integer of at most thirty digits."""
    return is_integer(value) and abs(value) < 10 ** 30


def check_site(value, name):
    """Raise InvalidBound with the name of the argument for what is no site."""
    if not is_site(value):
        raise InvalidBound(name)


def check_place(value, name):
    """Raise InvalidBound with the name of the argument for what is no place."""
    if not is_place(value):
        raise InvalidBound(name)
