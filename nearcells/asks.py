"""What is asked about places and distances."""

from itertools import combinations

from nearcells.checks import ascending, check_many, check_place, is_site
from nearcells.enclosing import circle_around, first_paper, holds, is_outside
from nearcells.links import faces_of, linked
from nearcells.nearby import nearest_rows, site_at, spans_along
from nearcells.outline import corners_of, side_of_polygon, sides_of
from nearcells.plane import circle_through, is_on_way, place_of, spread_square
from nearcells.polygons import sorted_by_place
from nearcells.subdivision import Subdivision
from nearcells.wholes import fraction, is_fraction, is_less


def nearest(sites, place, many=1):
    """The tuples (square, site) of the nearest sites, and of those as near as the last one."""
    rows = ascending(sites)
    check_place(place, "place")
    check_many(many, "many")
    told = sorted([(spread_square(place, site), site) for site in rows])
    bound = told[min(many, len(told)) - 1][0]
    return [(fraction(square, place[2] ** 2), site) for square, site in told if square <= bound]


def closest(sites):
    """The least squared distance of two sites, and the pairs that have it; None for one site."""
    return pairs_by_length(ascending(sites), 1)


def farthest(sites):
    """The greatest squared distance of two sites, and the pairs that have it; None for one site."""
    return pairs_by_length(ascending(sites), -1)


def pairs_by_length(rows, way):
    """The least squared distance times way (1 or -1), and the pairs of sites that have it."""
    best, pairs = None, []
    for a, b in combinations(rows, 2):
        x, y = b[0] - a[0], b[1] - a[1]
        square = x * x + y * y
        if best is None or square * way < best * way:
            best, pairs = square, []
        if square == best:
            pairs.append((a, b))
    return None if best is None else (best, pairs)


def smallest_circle(sites):
    """The smallest circle that has no site outside: its centre, its square, and a paper."""
    rows = ascending(sites)
    place, square = circle_around(rows)
    on = [site for site in rows if is_on(site, place, square)]
    return (place, square, first_paper(on, place))


def is_on(site, place, square):
    """Whether a site is on a circle."""
    return spread_square(place, site) * square[1] == square[0] * place[2] * place[2]


def is_smallest(sites, place, square, paper):
    """Whether a circle is the smallest one that has no site outside, and a paper shows it."""
    rows = ascending(sites)
    check_place(place, "place")
    if not is_fraction(square) or not is_paper(paper, rows):
        return False
    if not all([is_on(site, place, square) for site in paper]) or not holds(paper, place):
        return False
    return not any([is_outside(site, place, square) for site in rows])


def is_paper(value, rows):
    """Whether a value is a tuple of one, two or three unlike ones of the sites."""
    if not isinstance(value, tuple) or len(value) not in (1, 2, 3):
        return False
    if not all([is_site(site) and site in rows for site in value]):
        return False
    return len({site for site in value}) == len(value)


def largest_empty(sites):
    """The greatest square of an empty circle with its centre in the hull, and all such circles."""
    rows = ascending(sites)
    places = [(rows[0][0], rows[0][1], 1)]
    for a, b in sides_of(rows):
        places.extend(parting_places(rows, a, b))
    corners = corners_of(rows)
    for face in faces_of(rows, linked(rows)):
        place = circle_through(face[0], face[1], face[2])[0]
        if side_of_polygon(corners, place) >= 0:
            places.append(place)
    best, centres = (0, 1), {}
    for place in places:
        near = nearest_rows(rows, place)
        square = fraction(spread_square(place, near[0]), place[2] ** 2)
        if is_less(best, square):
            best, centres = square, {}
        if square == best:
            centres[place] = near
    return (best, sorted_by_place([(place, centres[place]) for place in centres]))


def parting_places(rows, a, b):
    """The places on the way between two sites at which other sites become the nearest ones."""
    told = []
    for top, bottom, _ in spans_along(rows, (a[0], a[1], 1), (b[0], b[1], 1))[1:]:
        x = a[0] * bottom + (b[0] - a[0]) * top
        told.append(place_of(x, a[1] * bottom + (b[1] - a[1]) * top, bottom))
    return told


def locate(sites, place):
    """Where a place is: the kind of the part of the subdivision, and the part."""
    sub = Subdivision(sites)
    check_place(place, "place")
    site = site_at(sub.rows, place)
    if site is not None:
        return ("site", site)
    for a, b in sub.edges():
        if is_on_way(a, b, place):
            return ("edge", (a, b))
    for face in sub.faces():
        if side_of_polygon(face, place) > 0:
            return ("face", face)
    return ("outside", None)
