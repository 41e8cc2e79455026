"""What is asked of the arguments that a caller passes.

Only the outermost tuples are looked at, and nothing is compared or hashed
before it is known to be a site: so arguments may be nested deep.
"""

from math import gcd

from nearcells.errors import InvalidBound, InvalidSites, LimitExceeded
from nearcells.wholes import is_fraction, is_integer

MOST_SITES = 200
FARTHEST_BOX = 10000000


# Most calls begin with this look at their sites. So no other function is called
# here for one number, and the bounds are written out instead of named.
def is_site(value):
    """Whether a value is a tuple (x, y) of two integers within the bounds."""
    if not isinstance(value, tuple) or len(value) != 2:
        return False
    x, y = value
    if not isinstance(x, int) or not isinstance(y, int):
        return False
    if x is True or x is False or y is True or y is False:
        return False
    if x > 1000000 or x < -1000000 or y > 1000000 or y < -1000000:
        return False
    return True


# The most frequent calls have three sites: they are looked at in one function,
# which tells what most of these calls ask next.
def turn_of_sites(a, b, c):
    """The double area of a, b, c as plane.turn tells it, None for what are no sites."""
    if not isinstance(a, tuple) or not isinstance(b, tuple) or not isinstance(c, tuple):
        return None
    if len(a) != 2 or len(b) != 2 or len(c) != 2:
        return None
    ax, ay = a
    bx, by = b
    cx, cy = c
    if not isinstance(ax, int) or not isinstance(bx, int) or not isinstance(cx, int):
        return None
    if not isinstance(ay, int) or not isinstance(by, int) or not isinstance(cy, int):
        return None
    if ax is True or ax is False or bx is True or bx is False or cx is True or cx is False:
        return None
    if ay is True or ay is False or by is True or by is False or cy is True or cy is False:
        return None
    if ax > 1000000 or ax < -1000000 or bx > 1000000 or bx < -1000000:
        return None
    if ay > 1000000 or ay < -1000000 or by > 1000000 or by < -1000000:
        return None
    if cx > 1000000 or cx < -1000000 or cy > 1000000 or cy < -1000000:
        return None
    return (bx - ax) * (cy - ay) - (by - ay) * (cx - ax)


def is_place(value):
    """Whether a value is a tuple (x, y, d) in lowest terms, d at least 1."""
    if not isinstance(value, tuple) or len(value) != 3:
        return False
    x, y, d = value
    if not isinstance(x, int) or not isinstance(y, int) or not isinstance(d, int):
        return False
    if x is True or x is False or y is True or y is False or d is True or d < 1:
        return False
    if not -(10 ** 30) < x < 10 ** 30 or not -(10 ** 30) < y < 10 ** 30 or d >= 10 ** 30:
        return False
    return d == 1 or gcd(x, y, d) == 1


def is_short(value):
    """Whether a value is an integer of at most thirty digits."""
    return is_integer(value) and -(10 ** 30) < value < 10 ** 30


def check_site(value, name):
    """Raise InvalidBound with the name of the argument for what is no site."""
    if not is_site(value):
        raise InvalidBound(name)


def check_place(value, name):
    """Raise InvalidBound with the name of the argument for what is no place."""
    if not is_place(value):
        raise InvalidBound(name)


def check_direction(value, name):
    """Raise InvalidBound for what is no tuple of two short integers, not both 0."""
    if not isinstance(value, tuple) or len(value) != 2:
        raise InvalidBound(name)
    if not is_short(value[0]) or not is_short(value[1]) or value == (0, 0):
        raise InvalidBound(name)


def check_box(value, name):
    """Raise InvalidBound for what is no box (left, low, right, high) of integers within bounds."""
    if not isinstance(value, tuple) or len(value) != 4:
        raise InvalidBound(name)
    for number in value:
        if not is_integer(number) or abs(number) > FARTHEST_BOX:
            raise InvalidBound(name)
    left, low, right, high = value
    if left >= right or low >= high:
        raise InvalidBound(name)


def check_many(value, name):
    """Raise InvalidBound for what is no integer from 1 to the most sites."""
    if not is_integer(value) or value < 1 or value > MOST_SITES:
        raise InvalidBound(name)


def check_square(value, name):
    """Raise InvalidBound for what is no fraction from 0 on."""
    if not is_fraction(value) or value[0] < 0:
        raise InvalidBound(name)


# Most calls begin with this look at a list, so that it is made without further calls.
def are_sites(value):
    """Whether a value is a list of 1 to 200 sites, no two alike."""
    if not isinstance(value, list) or not 0 < len(value) <= MOST_SITES:
        return False
    for item in value:
        if not isinstance(item, tuple) or len(item) != 2:
            return False
        x, y = item
        if not isinstance(x, int) or not isinstance(y, int):
            return False
        if x is True or x is False or y is True or y is False:
            return False
        if x > 1000000 or x < -1000000 or y > 1000000 or y < -1000000:
            return False
    return len(set(value)) == len(value)


def check_sites(value):
    """Raise InvalidSites for what is no list of 1 to 200 sites, no two alike."""
    if not are_sites(value):
        tell_wrong_site(value)


def tell_wrong_site(value):
    """Raise InvalidSites for a value that is known to be no sites."""
    if not isinstance(value, list):
        raise InvalidSites(-1)
    seen = set()
    for at, item in enumerate(value):
        if at == MOST_SITES or not is_site(item) or item in seen:
            raise InvalidSites(at)
        seen.add(item)
    raise InvalidSites(0)


def ascending(sites):
    """A new list of sites in ascending order, once they are known to be sites."""
    if not are_sites(sites):
        tell_wrong_site(sites)
    return sorted(sites)


def check_limit(rows, most):
    """Raise LimitExceeded for more sites than a function takes."""
    if len(rows) > most:
        raise LimitExceeded(most)


def check_member(value, sites, name):
    """Raise InvalidBound with the name of the argument for what is none of the sites."""
    if not is_site(value) or value not in sites:
        raise InvalidBound(name)


def check_two(a, b, sites):
    """Raise InvalidBound unless a and b are two unlike ones of the sites."""
    check_member(a, sites, "a")
    check_member(b, sites, "b")
    if a == b:
        raise InvalidBound("b")


def is_pair(value, sites):
    """Whether a value is a tuple (a, b) of two of the sites, a less than b."""
    if not isinstance(value, tuple) or len(value) != 2:
        return False
    a, b = value
    return is_site(a) and is_site(b) and a < b and a in sites and b in sites
