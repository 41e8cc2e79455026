"""The cells of sites: their borders, their vertices, and their areas."""

from itertools import combinations

from nearcells.around import area_of, centre_behind, points_about, ring_of
from nearcells.checks import ascending, check_box, check_member, check_place, check_sites
from nearcells.errors import InvalidBound
from nearcells.links import edges_of, faces_of, linked
from nearcells.nearby import lowest_lines, nearest_rows, with_twin
from nearcells.polygons import circles_of, cut, double_area_of_places, least_place
from nearcells.wholes import fraction


def cell(sites, site):
    """The borders (other, begin, end) of a cell, with the cell on the left."""
    check_sites(sites)
    check_member(site, sites, "site")
    here = (site[0], site[1], 1)
    ring, is_bounded = ring_of(points_about(sites, here))
    ends = [centre_behind(part, here) for part in ring]
    others = [part[0][3] for part in ring]
    if not is_bounded:
        borders = list(zip(others, [None] + ends, ends))
        # Two lines have no order along the cell.
        return sorted(borders) if len(ends) == 2 and ends[0] is None else borders
    borders = list(zip(others, ends[-1:] + ends, ends))
    at = least_place([begin for _, begin, _ in borders])
    return borders[at:] + borders[:at]


def vertices(sites):
    """The tuples (place, square, near) of the places at which cells meet, ascending."""
    rows = ascending(sites)
    return circles_of(faces_of(rows, linked(rows)))


def meeting(sites, place):
    """The sites in whose cells a place is, ascending."""
    rows = ascending(sites)
    check_place(place, "place")
    return nearest_rows(rows, place)


def touching(sites):
    """The pairs of sites whose cells have a point in common, ascending."""
    rows = ascending(sites)
    links = linked(rows)
    pairs = edges_of(rows, links)
    round_faces = [sorted(face) for face in faces_of(rows, links) if len(face) > 3]
    if not round_faces:
        return pairs
    known = {pair: True for pair in pairs}
    for face in round_faces:
        for a, b in combinations(face, 2):
            known[(a, b)] = True
    return sorted(known)


def double_area(sites, site):
    """The double area of a cell as a fraction, or None for a cell without bounds."""
    check_sites(sites)
    check_member(site, sites, "site")
    ring, is_bounded = ring_of(points_about(sites, (site[0], site[1], 1)))
    if not is_bounded:
        return None
    top, bottom = area_of(ring)
    return fraction(top, 4 * bottom)


def boxed(sites, site, box):
    """The double area of the part of a cell within a box (left, low, right, high)."""
    check_sites(sites)
    check_member(site, sites, "site")
    check_box(box, "box")
    left, low, right, high = box
    x, y = site
    # Told from the site: nearer sites first, so that most others cut nothing away.
    left, low, right, high = left - x, low - y, right - x, high - y
    places = [(left, low, 1), (right, low, 1), (right, high, 1), (left, high, 1)]
    for square, u, v, _ in sorted(points_about(sites, (x, y, 1))):
        places = cut(places, -2 * u, -2 * v, square)
        if not places:
            return (0, 1)
    return double_area_of_places(places)


def along(sites, a, b):
    """The sites whose cells are met on the way from one place to another one, in order."""
    check_sites(sites)
    check_place(a, "a")
    check_place(b, "b")
    if a == b:
        raise InvalidBound("b")
    chain, twins = lowest_lines(sites, a, b)
    if not twins:
        return [site for _, _, site in chain]
    return [one for _, _, site in chain for one in with_twin(site, twins)]
