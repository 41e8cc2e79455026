"""Geometry of sites and places that are known to be valid."""

from math import gcd

from nearcells.wholes import fraction


def turn(a, b, c):
    """The double area of the triangle a, b, c, below 0 if it turns right."""
    return (b[0] - a[0]) * (c[1] - a[1]) - (b[1] - a[1]) * (c[0] - a[0])


def turn_to_place(a, b, place):
    """The double area of two sites and a place (x, y, d), times d."""
    x, y, d = place
    return (b[0] - a[0]) * (y - d * a[1]) - (b[1] - a[1]) * (x - d * a[0])


def on_stretch(a, b, c):
    """Whether c is a point of the stretch from a to b."""
    # The points of one line stand along it in the order of tuples.
    return turn(a, b, c) == 0 and (a <= c <= b or b <= c <= a)


def is_on_way(a, b, place):
    """Whether a place is on the stretch from a to b, a not above b."""
    x, y, d = place
    if turn_to_place(a, b, place) != 0:
        return False
    return (a[0] * d, a[1] * d) <= (x, y) <= (b[0] * d, b[1] * d)


def place_of(x, y, d):
    """The place (x / d, y / d) in lowest terms; d is not 0."""
    common = gcd(x, y, d)
    if d < 0:
        common = -common
    return (x // common, y // common, d // common)


def circle_through(a, b, c):
    """The centre and the squared radius of the circle through a triangle."""
    ax, ay = a
    bx, by = b[0] - ax, b[1] - ay
    cx, cy = c[0] - ax, c[1] - ay
    bz, cz = bx * bx + by * by, cx * cx + cy * cy
    x, y, d = bz * cy - cz * by, cz * bx - bz * cx, 2 * (bx * cy - by * cx)
    common = gcd(x, y, d)
    if d < 0:
        common = -common
    x, y, d = x // common, y // common, d // common
    return ((ax * d + x, ay * d + y, d), fraction(x * x + y * y, d * d))


def height_over(a, b, c, d):
    """How far the lift of d is above the plane through those of a triangle that turns left.

    The height is told times the double area: above 0 outside of the circle
    through a, b and c, 0 on it, below 0 inside.
    """
    # Lifts from d instead of (0, 0) change all heights by the same plane.
    dx, dy = d
    ax, ay = a[0] - dx, a[1] - dy
    bx, by = b[0] - dx, b[1] - dy
    cx, cy = c[0] - dx, c[1] - dy
    return ((ax * ax + ay * ay) * (by * cx - bx * cy) + (bx * bx + by * by) * (ax * cy - ay * cx)
            + (cx * cx + cy * cy) * (ay * bx - ax * by))


def spread_square(place, site):
    """The squared distance of a place (x, y, d) and a site, times d * d."""
    x, y, d = place
    return (x - d * site[0]) ** 2 + (y - d * site[1]) ** 2
