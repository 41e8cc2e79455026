"""Geometry of sites and places that are known to be valid."""

from math import gcd

from nearcells.wholes import fraction, sign


def turn(a, b, c):
    """The double area of the triangle a, b, c, below 0 if it turns right."""
    return (b[0] - a[0]) * (c[1] - a[1]) - (b[1] - a[1]) * (c[0] - a[0])


def on_stretch(a, b, c):
    """Whether c is a point of the stretch from a to b."""
    # The points of one line stand along it in the order of tuples.
    return turn(a, b, c) == 0 and min(a, b) <= c <= max(a, b)


def lifted_from(a, b):
    """The way from a to b, and the square of its length as the height."""
    x = b[0] - a[0]
    y = b[1] - a[1]
    return (x, y, x * x + y * y)


def place_of(x, y, d):
    """The place (x / d, y / d) in lowest terms; d is not 0."""
    common = gcd(gcd(x, y), d)
    if d < 0:
        common = -common
    return (x // common, y // common, d // common)


def circle_through(a, b, c):
    """The centre and the squared radius of the circle through a triangle."""
    bx, by, bz = lifted_from(a, b)
    cx, cy, cz = lifted_from(a, c)
    double = 2 * turn(a, b, c)
    x = bz * cy - cz * by
    y = cz * bx - bz * cx
    centre = place_of(a[0] * double + x, a[1] * double + y, double)
    return (centre, fraction(x * x + y * y, double * double))


def lift_sign(a, b, c, d):
    """Where the lift of d is: above (1), in (0) or below (-1) the plane.

    The plane is the one through the lifts of the triangle a, b, c.
    """
    # Lifts from a instead of (0, 0) change all heights by the same plane.
    bx, by, bz = lifted_from(a, b)
    cx, cy, cz = lifted_from(a, c)
    dx, dy, dz = lifted_from(a, d)
    base = bx * cy - by * cx
    volume = dx * (by * cz - bz * cy) + dy * (bz * cx - bx * cz) + dz * base
    return sign(volume) * sign(base)


def spread_square(place, site):
    """The squared distance of a place (x, y, d) and a site, times d * d."""
    x, y, d = place
    return (x - d * site[0]) ** 2 + (y - d * site[1]) ** 2
