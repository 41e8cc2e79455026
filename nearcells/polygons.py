"""Places in order, and convex polygons whose corners are places."""

from nearcells.plane import circle_through, place_of
from nearcells.wholes import fraction


def place_keys(places):
    """For each place two integers, and its number, that are ordered as these places are."""
    # Unlike fractions with denominators up to d differ by at least 1 / (d * d).
    scale = max([d for _, _, d in places], default=1) ** 2
    return [(x * scale // d, y * scale // d, at) for at, (x, y, d) in enumerate(places)]


def sorted_by_place(rows):
    """Tuples that begin with a place, unlike ones, in the order of these."""
    return [rows[at] for _, _, at in sorted(place_keys([row[0] for row in rows]))]


def circles_of(faces):
    """The tuples (place, square, corners) of the circles of faces, in the order of their centres."""
    found = []
    for face in faces:
        place, square = circle_through(face[0], face[1], face[2])
        found.append((place, square, sorted(face)))
    return sorted_by_place(found)


def least_place(places):
    """The number of the least one of some places."""
    return min(place_keys(places))[2]


def cut(places, u, v, w):
    """The part of a convex polygon, told by its corners turning left, in a half-plane.

    A place (x, y, d) is in it for u * x + v * y + w * d from 0 on.
    """
    depths = [u * x + v * y + w * d for x, y, d in places]
    if min(depths) >= 0:
        return places
    kept = []
    for at, now in enumerate(depths):
        before = depths[at - 1]
        if (before < 0 < now) or (now < 0 < before):
            kept.append(cut_side(places[at - 1], places[at], before, now))
        if now >= 0:
            kept.append(places[at])
    return kept


def cut_side(a, b, at_a, at_b):
    """Where a line cuts the way between two places, with depths of unlike signs at them."""
    # Depths are told times d, so that the sum of both places that has the depth 0 is whole.
    return place_of(a[0] * at_b - b[0] * at_a, a[1] * at_b - b[1] * at_a, a[2] * at_b - b[2] * at_a)


def double_area_of_places(places):
    """The double area of a polygon that turns left, as a fraction."""
    top, bottom = 0, 1
    for at, (x, y, d) in enumerate(places):
        px, py, pd = places[at - 1]
        # As long as denominators are small there is no need for the lowest terms.
        top, bottom = top * d * pd + (px * y - x * py) * bottom, bottom * d * pd
    return fraction(top, bottom)
