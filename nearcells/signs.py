"""Sides, circles and distances of a few sites."""

from nearcells.checks import check_place, check_site
from nearcells.errors import InvalidBound, NoCircle
from nearcells.plane import circle_through, lift_sign, on_stretch, spread_square, turn
from nearcells.wholes import fraction, sign


def side(a, b, c):
    """1, 0 or -1 for a site c on the left of, on, or right of the line a b."""
    check_site(a, "a")
    check_site(b, "b")
    if a == b:
        raise InvalidBound("b")
    check_site(c, "c")
    return sign(turn(a, b, c))


def is_between(a, b, c):
    """Whether c is a point of the stretch from a to b, ends included."""
    check_site(a, "a")
    check_site(b, "b")
    check_site(c, "c")
    return on_stretch(a, b, c)


def circle(a, b, c):
    """The centre and the squared radius of the circle through three sites."""
    check_site(a, "a")
    check_site(b, "b")
    check_site(c, "c")
    check_corners(a, b, c)
    return circle_through(a, b, c)


def in_circle(a, b, c, d):
    """1, 0 or -1 for d inside of, on, or outside of the circle a b c."""
    return -lift_side(a, b, c, d)


def lift_side(a, b, c, d):
    """1, 0 or -1 for the lift of d above, in, or below the plane of a b c."""
    check_site(a, "a")
    check_site(b, "b")
    check_site(c, "c")
    check_site(d, "d")
    check_corners(a, b, c)
    return lift_sign(a, b, c, d)


def check_corners(a, b, c):
    """Raise NoCircle if three sites are no corners of a triangle."""
    if turn(a, b, c) == 0:
        raise NoCircle()


def square(place, site):
    """The squared distance of a place and a site, as a fraction."""
    check_place(place, "place")
    check_site(site, "site")
    return fraction(spread_square(place, site), place[2] ** 2)


def nearer(place, a, b):
    """-1, 0 or 1 for a place nearer to a, as near to both, or nearer to b."""
    check_place(place, "place")
    check_site(a, "a")
    check_site(b, "b")
    return sign(spread_square(place, a) - spread_square(place, b))
