"""What is asked of weighted sites (x, y, w) that a caller passes."""

from nearcells.checks import is_site
from nearcells.errors import InvalidBound, InvalidSites
from nearcells.wholes import is_integer

MOST_WEIGHTED = 30
HEAVIEST = 10000000000000


def is_weighted(value):
    """Whether a value is a tuple (x, y, w) of a site and a weight within the bounds."""
    if not isinstance(value, tuple) or len(value) != 3 or not is_site(value[:2]):
        return False
    return is_integer(value[2]) and -HEAVIEST <= value[2] <= HEAVIEST


def check_weighted(value, name):
    """Raise InvalidBound with the name of the argument for what is no weighted site."""
    if not is_weighted(value):
        raise InvalidBound(name)


def check_weighted_member(value, rows, name):
    """Raise InvalidBound with the name of the argument for what is none of the weighted sites."""
    if not is_weighted(value) or value not in rows:
        raise InvalidBound(name)


def ascending_weighted(value):
    """A new list of weighted sites in ascending order, once they are known to be such.

    Raises InvalidSites for what is no list of 1 to 30 of them, no two with one spot.
    """
    if not isinstance(value, list):
        raise InvalidSites(-1)
    if len(value) == 0:
        raise InvalidSites(0)
    seen = set()
    for at, item in enumerate(value):
        if at == MOST_WEIGHTED or not is_weighted(item) or item[:2] in seen:
            raise InvalidSites(at)
        seen.add(item[:2])
    return sorted(value)
