"""Places in order, and convex polygons whose corners are places."""

from nearcells.plane import place_of
from nearcells.wholes import fraction, total


def order_scale(places):
    """A number for place_key that puts these places in order."""
    # Unlike fractions with denominators up to d differ by at least 1 / (d * d).
    return max([d for _, _, d in places]) ** 2


def place_key(place, scale):
    """Two integers that are ordered as places are, for places of one order_scale."""
    x, y, d = place
    return (x * scale // d, y * scale // d)


def sorted_places(places):
    """Places in ascending order."""
    if len(places) == 0:
        return []
    scale = order_scale(places)
    return sorted(places, key=lambda place: place_key(place, scale))


def side_nearer(site, other):
    """The half-plane of what is at least as near to one site as to another one.

    It is told as (u, v, w): a place (x, y, d) is in it for u * x + v * y + w * d from 0 on.
    """
    ax, ay = site
    bx, by = other
    return (2 * (ax - bx), 2 * (ay - by), bx * bx + by * by - ax * ax - ay * ay)


def cut(places, half):
    """The part of a convex polygon, told by its corners turning left, in a half-plane."""
    u, v, w = half
    depths = [u * x + v * y + w * d for x, y, d in places]
    kept = []
    for at, place in enumerate(places):
        before, now = depths[at - 1], depths[at]
        if (before < 0 < now) or (now < 0 < before):
            kept.append(cut_side(places[at - 1], place, before, now))
        if now >= 0:
            kept.append(place)
    return kept


def cut_side(a, b, at_a, at_b):
    """Where a line cuts the way between two places, with depths of unlike signs at them."""
    # Depths are told times d, so that the sum of both places that has the depth 0 is whole.
    return place_of(a[0] * at_b - b[0] * at_a, a[1] * at_b - b[1] * at_a, a[2] * at_b - b[2] * at_a)


def double_area_of_places(places):
    """The double area of a polygon that turns left, as a fraction."""
    parts = []
    for at, (x, y, d) in enumerate(places):
        before = places[at - 1]
        parts.append(fraction(before[0] * y - x * before[1], before[2] * d))
    return total(parts)
