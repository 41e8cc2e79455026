"""The cells of weighted sites."""

from nearcells.checks import check_place
from nearcells.lower import is_touching, lifted, lower_chain, lower_faces, rise_over, seen_spots, spots_of
from nearcells.mesh import told_edge
from nearcells.plane import place_of, spread_square, turn
from nearcells.polygons import sorted_by_place
from nearcells.weighted import ascending_weighted, check_weighted, check_weighted_member
from nearcells.wholes import fraction


def power(place, site):
    """The squared distance of a place and a weighted site's spot, less the weight."""
    check_place(place, "place")
    check_weighted(site, "site")
    return fraction(spread_power(place, site), place[2] ** 2)


def spread_power(place, site):
    """The power of a weighted site at a place (x, y, d), times d * d."""
    return spread_square(place, site) - site[2] * place[2] ** 2


def least_power(sites, place):
    """The weighted sites whose power is the least at a place, ascending."""
    rows = ascending_weighted(sites)
    check_place(place, "place")
    return least_rows(rows, place)


def least_rows(rows, place):
    """What least_power tells, for ascending weighted sites."""
    powers = [spread_power(place, site) for site in rows]
    least = min(powers)
    return [site for site, one in zip(rows, powers) if one == least]


def kind(sites, site):
    """Whether a weighted site is "seen", "touching" or "hidden"."""
    rows = ascending_weighted(sites)
    check_weighted_member(site, rows, "site")
    points = lifted(rows)
    faces = lower_faces(points)
    if site[:2] in seen_spots(points, faces):
        return "seen"
    return "touching" if is_touching(points, faces, lifted([site])[0]) else "hidden"


def power_edges(sites):
    """The pairs of spots of seen sites whose cells have a border, ascending."""
    points = lifted(ascending_weighted(sites))
    faces = lower_faces(points)
    if len(faces) == 0:
        chain = spots_of(lower_chain(points))
        return list(zip(chain, chain[1:]))
    sides = {}
    for corners, _ in faces:
        for a, b in zip(corners, corners[1:] + corners[:1]):
            sides[told_edge(a, b)] = True
    return sorted(sides)


def power_faces(sites):
    """The faces whose corners are spots of seen sites, ascending."""
    return sorted([corners for corners, _ in lower_faces(lifted(ascending_weighted(sites)))])


def power_vertices(sites):
    """The tuples (place, least power, near) of the places at which cells of a face meet."""
    rows = ascending_weighted(sites)
    found = []
    for _, on in lower_faces(lifted(rows)):
        place = place_below(on)
        near = least_rows(rows, place)
        found.append((place, fraction(spread_power(place, near[0]), place[2] ** 2), near))
    return sorted_by_place(found)


def place_below(on):
    """The place at which the points of a face have the same power."""
    a, b = on[:2]
    c = [point for point in on if turn(a, b, point) != 0][0]
    double = 2 * turn(a, b, c)
    to_b, to_c = b[2] - a[2], c[2] - a[2]
    x = to_b * (c[1] - a[1]) - to_c * (b[1] - a[1])
    y = to_c * (b[0] - a[0]) - to_b * (c[0] - a[0])
    return place_of(x, y, double)


def cover(sites, site):
    """The least paper of two or three seen sites against a site, or None for a seen one."""
    rows = ascending_weighted(sites)
    check_weighted_member(site, rows, "site")
    points = lifted(rows)
    seen = seen_spots(points, lower_faces(points))
    if site[:2] in seen:
        return None
    # Points stand in the order of their sites, whose spots are unlike.
    below = covering_points([point for point in points if point[:2] in seen], lifted([site])[0])
    return tuple([row for row in rows if row[:2] in spots_of(below)])


def covering_points(seen, point):
    """The least tuple of two or three ascending points not above a further one."""
    for at, a in enumerate(seen):
        for back, b in enumerate(seen[at + 1:], at + 2):
            if turn(a, b, point) == 0:
                if a < point < b and rise_over(a, b, point) >= 0:
                    return (a, b)
            for c in seen[back:]:
                if is_in_triangle(a, b, c, point) and height_above(a, b, c, point) >= 0:
                    return (a, b, c)
    return None


def is_in_triangle(a, b, c, point):
    """Whether a spot is in a triangle, or on its border; not for three in a row."""
    turns = [turn(a, b, point), turn(b, c, point), turn(c, a, point)]
    return turn(a, b, c) != 0 and (min(turns) >= 0 or max(turns) <= 0)


def height_above(a, b, c, point):
    """How far a point is above the plane through three others, times their squared area."""
    area = turn(a, b, c)
    parts = turn(b, c, point) * a[2] + turn(c, a, point) * b[2] + turn(a, b, point) * c[2]
    return (area * point[2] - parts) * area
