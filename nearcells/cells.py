"""The cells of sites: their borders, their vertices, and their areas."""

from itertools import combinations

from nearcells.checks import ascending, check_box, check_member, check_place
from nearcells.errors import InvalidBound
from nearcells.nearby import nearest_rows, spans_along
from nearcells.plane import circle_through
from nearcells.polygons import cut, double_area_of_places, side_nearer, sorted_places
from nearcells.subdivision import Subdivision


def cell(sites, site):
    """The borders (other, begin, end) of a cell, with the cell on the left."""
    sub = Subdivision(sites)
    check_member(site, sites, "site")
    return borders_of(sub, site)


def borders_of(sub, site):
    """What cell tells, for a subdivision."""
    others = sub.neighbours(site)
    borders = [(other, centre_left(sub, other, site), centre_left(sub, site, other)) for other in others]
    if not is_bounded(borders):
        return borders
    least = sorted_places([begin for _, begin, _ in borders])[0]
    at = [begin for _, begin, _ in borders].index(least)
    return borders[at:] + borders[:at]


def centre_left(sub, a, b):
    """The centre of the face on the left of the edge from a to b, or None."""
    if (a, b) not in sub.before:
        return None
    return circle_through(sub.before[(a, b)], a, b)[0]


def is_bounded(borders):
    """Whether a cell with these borders has no ends in the distance."""
    return len(borders) > 0 and all([begin is not None for _, begin, _ in borders])


def vertices(sites):
    """The tuples (place, square, near) of the places at which cells meet, ascending."""
    sub = Subdivision(sites)
    found = {}
    for face in sub.parts:
        place, square = circle_through(face[0], face[1], face[2])
        found[place] = (square, sorted(face))
    return [(place, *found[place]) for place in sorted_places(list(found))]


def meeting(sites, place):
    """The sites in whose cells a place is, ascending."""
    rows = ascending(sites)
    check_place(place, "place")
    return nearest_rows(rows, place)


def touching(sites):
    """The pairs of sites whose cells have a point in common, ascending."""
    sub = Subdivision(sites)
    pairs = {edge: True for edge in sub.lines}
    for face in sub.parts:
        corners = sorted(face)
        for a, b in combinations(corners, 2):
            pairs[(a, b)] = True
    return sorted(pairs)


def double_area(sites, site):
    """The double area of a cell as a fraction, or None for a cell without bounds."""
    borders = cell(sites, site)
    if not is_bounded(borders):
        return None
    return double_area_of_places([begin for _, begin, _ in borders])


def boxed(sites, site, box):
    """The double area of the part of a cell within a box (left, low, right, high)."""
    sub = Subdivision(sites)
    check_member(site, sites, "site")
    check_box(box, "box")
    left, low, right, high = box
    places = [(left, low, 1), (right, low, 1), (right, high, 1), (left, high, 1)]
    return double_area_of_places(part_of(sub, site, places))


def part_of(sub, site, places):
    """The part of a convex polygon that is in the cell of a site."""
    for other in sub.neighbours(site):
        places = cut(places, side_nearer(site, other))
    return places


def along(sites, a, b):
    """The sites whose cells are met on the way from one place to another one, in order."""
    rows = ascending(sites)
    check_place(a, "a")
    check_place(b, "b")
    if a == b:
        raise InvalidBound("b")
    return [site for _, _, near in spans_along(rows, a, b) for site in near]
