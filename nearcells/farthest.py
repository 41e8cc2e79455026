"""The cells of farthest sites."""

from nearcells.checks import ascending, check_member, check_place, check_two
from nearcells.faces import corners_before, faces_of
from nearcells.mesh import mesh_of, told_edge
from nearcells.outline import corners_of
from nearcells.plane import circle_through, height_over, spread_square
from nearcells.polygons import sorted_places
from nearcells.wholes import fraction


def farthest_from(sites, place):
    """The greatest squared distance that a site has from a place, and the sites that have it."""
    rows = ascending(sites)
    check_place(place, "place")
    squares = [spread_square(place, site) for site in rows]
    most = max(squares)
    far = [site for site, one in zip(rows, squares) if one == most]
    return (fraction(most, place[2] ** 2), far)


def far_met(sites, place):
    """The corners in whose far cells a place is, ascending."""
    return farthest_from(sites, place)[1]


def far_mesh(corners):
    """Triangles of the corners of a hull, turning left, whose circles have no site outside."""
    triangles = []
    ahead = [(0, len(corners) - 1)]
    while len(ahead) > 0:
        first, last = ahead.pop()
        if last - first > 1:
            best = first + 1
            for at in range(first + 2, last):
                if height_over(corners[first], corners[best], corners[last], corners[at]) > 0:
                    best = at
            triangles.append((corners[first], corners[best], corners[last]))
            ahead.extend([(first, best), (best, last)])
    return mesh_of(triangles)


def is_far_joined(mesh, a, b):
    """Whether a side of such a triangle parts two far cells."""
    if (a, b) not in mesh or (b, a) not in mesh:
        return True
    return height_over(a, b, mesh[(a, b)], mesh[(b, a)]) < 0


def far_parts(rows):
    """The far edges of ascending sites, and for each side of a far face the corner ahead of it."""
    corners = corners_of(rows)
    if len(corners) < 3:
        return (list(zip(corners, corners[1:])), {})
    mesh = far_mesh(corners)
    sides = {told_edge(a, b): True for a, b in mesh}
    joined = sorted([(a, b) for a, b in sides if is_far_joined(mesh, a, b)])
    return (joined, corners_before(mesh, joined))


def far_cell(sites, site):
    """The borders (other, begin, end) of a far cell, with the cell on the left, or None."""
    rows = ascending(sites)
    check_member(site, rows, "site")
    corners = corners_of(rows)
    if site not in corners:
        return None
    if len(corners) < 3:
        return [(other, None, None) for other in corners if other != site]
    before = far_parts(rows)[1]
    other, begin = corners[corners.index(site) + 1 - len(corners)], None
    borders = []
    while (site, other) in before:
        end = circle_through(site, other, before[(site, other)])[0]
        borders.append((other, begin, end))
        other, begin = before[(site, other)], end
    return borders + [(other, begin, None)]


def far_vertices(sites):
    """The tuples (place, square, far) of the places at which far cells meet, ascending."""
    found = {}
    for face in far_faces(sites):
        place, square = circle_through(face[0], face[1], face[2])
        found[place] = (square, sorted(face))
    return [(place, *found[place]) for place in sorted_places(list(found))]


def far_edges(sites):
    """The pairs whose far cells share a border, ascending."""
    return far_parts(ascending(sites))[0]


def far_faces(sites):
    """The polygons of all sites on a circle that has no site outside, ascending."""
    return faces_of(far_parts(ascending(sites))[1])


def is_far_edge(sites, a, b):
    """Whether a pair of sites, in any order, is a far edge."""
    rows = ascending(sites)
    check_two(a, b, rows)
    return told_edge(a, b) in far_parts(rows)[0]
