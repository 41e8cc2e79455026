"""Places in order, and convex polygons whose corners are places."""

from nearcells.plane import place_of
from nearcells.wholes import fraction


def order_scale(places):
    """A number for place_key that puts these places in order."""
    # Unlike fractions with denominators up to d differ by at least 1 / (d * d).
    return max([d for _, _, d in places], default=1) ** 2


def place_key(place, scale):
    """Two integers that are ordered as places are, for places of one order_scale."""
    x, y, d = place
    return (x * scale // d, y * scale // d)


def sorted_by_place(rows):
    """Tuples that begin with a place, unlike ones, in the order of these."""
    scale = order_scale([row[0] for row in rows])
    ranked = sorted([(place_key(row[0], scale), at) for at, row in enumerate(rows)])
    return [rows[at] for _, at in ranked]


def least_place(places):
    """The number of the least one of some places."""
    scale = order_scale(places)
    keys = [place_key(place, scale) for place in places]
    return keys.index(min(keys))


def cut(places, u, v, w):
    """The part of a convex polygon, told by its corners turning left, in a half-plane.

    A place (x, y, d) is in it for u * x + v * y + w * d from 0 on.
    """
    depths = [u * x + v * y + w * d for x, y, d in places]
    if min(depths) >= 0:
        return places
    kept = []
    for at, now in enumerate(depths):
        before = depths[at - 1]
        if (before < 0 < now) or (now < 0 < before):
            kept.append(cut_side(places[at - 1], places[at], before, now))
        if now >= 0:
            kept.append(places[at])
    return kept


def cut_side(a, b, at_a, at_b):
    """Where a line cuts the way between two places, with depths of unlike signs at them."""
    # Depths are told times d, so that the sum of both places that has the depth 0 is whole.
    return place_of(a[0] * at_b - b[0] * at_a, a[1] * at_b - b[1] * at_a, a[2] * at_b - b[2] * at_a)


def double_area_of_places(places):
    """The double area of a polygon that turns left, as a fraction."""
    top, bottom = 0, 1
    for at, (x, y, d) in enumerate(places):
        px, py, pd = places[at - 1]
        # As long as denominators are small there is no need for the lowest terms.
        top, bottom = top * d * pd + (px * y - x * py) * bottom, bottom * d * pd
    return fraction(top, bottom)
