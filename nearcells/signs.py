"""Sides, circles and distances of a few sites."""

from nearcells.checks import check_place, check_site, turn_of_sites
from nearcells.errors import InvalidBound, NoCircle
from nearcells.plane import circle_through, height_over, spread_square
from nearcells.wholes import fraction, sign


def side(a, b, c):
    """1, 0 or -1 for a site c on the left of, on, or right of the line a b."""
    area = turn_of_sites(a, b, c)
    if area is None:
        check_site(a, "a")
        check_site(b, "b")
        if a != b:
            check_site(c, "c")
    elif area > 0:
        return 1
    elif area < 0:
        return -1
    if a == b:
        raise InvalidBound("b")
    return 0


def is_between(a, b, c):
    """Whether c is a point of the stretch from a to b, ends included."""
    area = turn_of_sites(a, b, c)
    if area is None:
        check_three(a, b, c)
    if area != 0:
        return False
    # The points of one line stand along it in the order of tuples.
    return a <= c <= b or b <= c <= a


def check_three(a, b, c):
    """Raise InvalidBound for the first one of a, b and c that is no site."""
    check_site(a, "a")
    check_site(b, "b")
    check_site(c, "c")


def circle(a, b, c):
    """The centre and the squared radius of the circle through three sites."""
    area = turn_of_sites(a, b, c)
    if area is None:
        check_three(a, b, c)
    if area == 0:
        raise NoCircle()
    return circle_through(a, b, c)


def in_circle(a, b, c, d):
    """1, 0 or -1 for d inside of, on, or outside of the circle a b c."""
    return -lift_side(a, b, c, d)


def lift_side(a, b, c, d):
    """1, 0 or -1 for the lift of d above, in, or below the plane of a b c."""
    area = turn_of_sites(a, b, c)
    if area is None:
        check_three(a, b, c)
    check_site(d, "d")
    if area == 0:
        raise NoCircle()
    # The height is told for a triangle that turns left, with the other sign for others.
    return sign(height_over(a, b, c, d)) * sign(area)


def square(place, site):
    """The squared distance of a place and a site, as a fraction."""
    check_place(place, "place")
    check_site(site, "site")
    return fraction(spread_square(place, site), place[2] ** 2)


def nearer(place, a, b):
    """-1, 0 or 1 for a place nearer to a, as near to both, or nearer to b."""
    check_place(place, "place")
    check_site(a, "a")
    check_site(b, "b")
    return sign(spread_square(place, a) - spread_square(place, b))
