"""The cells of farthest sites."""

from nearcells.checks import ascending, check_member, check_place, check_two
from nearcells.links import edges_of, faces_of, linked, links_of, neighbours_of
from nearcells.mesh import inner_edges, mesh_of, told_edge
from nearcells.outline import corners_of
from nearcells.plane import circle_through, height_over, spread_square
from nearcells.polygons import circles_of
from nearcells.wholes import fraction


def farthest_from(sites, place):
    """The greatest squared distance that a site has from a place, and the sites that have it."""
    rows = ascending(sites)
    check_place(place, "place")
    squares = [spread_square(place, site) for site in rows]
    most = max(squares)
    far = [site for site, one in zip(rows, squares) if one == most]
    return (fraction(most, place[2] ** 2), far)


def far_met(sites, place):
    """The corners in whose far cells a place is, ascending."""
    return farthest_from(sites, place)[1]


def far_mesh(corners):
    """Triangles of the corners of a hull, turning left, whose circles have no site outside."""
    triangles = []
    ahead = [(0, len(corners) - 1)]
    while len(ahead) > 0:
        first, last = ahead.pop()
        if last - first > 1:
            best = first + 1
            for at in range(first + 2, last):
                if height_over(corners[first], corners[best], corners[last], corners[at]) > 0:
                    best = at
            triangles.append((corners[first], corners[best], corners[last]))
            ahead.extend([(first, best), (best, last)])
    return mesh_of(triangles)


def far_links(rows):
    """The corners of ascending sites, ascending, and the links of their far cells."""
    around = corners_of(rows)
    corners = sorted(around)
    if len(corners) < 3:
        return (corners, linked(corners))
    mesh = far_mesh(around)
    flat = [(a, b) for a, b in inner_edges(mesh) if height_over(a, b, mesh[(a, b)], mesh[(b, a)]) == 0]
    return (corners, links_of(corners, mesh, flat))


def far_cell(sites, site):
    """The borders (other, begin, end) of a far cell, with the cell on the left, or None."""
    rows = ascending(sites)
    check_member(site, rows, "site")
    corners, links = far_links(rows)
    if site not in corners:
        return None
    at = corners.index(site)
    begin, borders = None, []
    for other in neighbours_of(links, at):
        ahead = links[at][other]
        end = None
        if ahead >= 0:
            end = circle_through(site, corners[other], corners[ahead])[0]
        borders.append((corners[other], begin, end))
        begin = end
    return borders


def far_vertices(sites):
    """The tuples (place, square, far) of the places at which far cells meet, ascending."""
    return circles_of(far_faces(sites))


def far_edges(sites):
    """The pairs whose far cells share a border, ascending."""
    corners, links = far_links(ascending(sites))
    return edges_of(corners, links)


def far_faces(sites):
    """The polygons of all sites on a circle that has no site outside, ascending."""
    corners, links = far_links(ascending(sites))
    return faces_of(corners, links)


def is_far_edge(sites, a, b):
    """Whether a pair of sites, in any order, is a far edge."""
    rows = ascending(sites)
    check_two(a, b, rows)
    corners, links = far_links(rows)
    return told_edge(a, b) in edges_of(corners, links)
