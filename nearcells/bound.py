"""The subdivision with edges that are told ahead."""

from nearcells.checks import ascending, check_limit, check_member, check_two
from nearcells.errors import InvalidTriangles
from nearcells.links import edges_of, faces_of, fans_of, linked, links_of
from nearcells.mesh import inner_edges, wrong_in
from nearcells.outline import is_row
from nearcells.plane import height_over, turn
from nearcells.told import bound_mesh, crossing_edges, is_crossed, is_split, told_edges
from nearcells.triangles import triangulation
from nearcells.wholes import order_keys

MOST_BOUND = 40


def sees(sites, told, a, b):
    """Whether two sites see each other: nothing is between them, and no told edge crosses."""
    rows = ascending(sites)
    edges = told_edges(told, rows)
    check_two(a, b, rows)
    check_limit(rows, MOST_BOUND)
    return is_open(rows, edges, a, b)


def is_open(rows, edges, a, b):
    """What sees tells, for told edges that are known to be valid."""
    return not is_split(rows, a, b) and not is_crossed(edges, a, b)


def seen_from(sites, told, site):
    """The sites that a site sees, ascending."""
    rows = ascending(sites)
    edges = told_edges(told, rows)
    check_member(site, rows, "site")
    check_limit(rows, MOST_BOUND)
    return [other for other in rows if other != site and is_open(rows, edges, site, other)]


def bound_faces(sites, told):
    """The faces of the subdivision with told edges, ascending."""
    rows, links = bound_links(sites, told)
    return faces_of(rows, links)


def bound_edges(sites, told):
    """The sides of the faces with told edges, ascending."""
    rows, links = bound_links(sites, told)
    return edges_of(rows, links)


def bound_triangles(sites, told):
    """The triangles that the faces with told edges are cut into, ascending."""
    return sorted([triangle for face in bound_faces(sites, told) for triangle in fans_of(face)])


def bound_links(sites, told):
    """The ascending sites, and their links with told edges."""
    rows = ascending(sites)
    edges = told_edges(told, rows)
    check_limit(rows, MOST_BOUND)
    if is_row(rows):
        return (rows, linked(rows))
    mesh = bound_mesh(rows, edges)
    flat = [(a, b) for a, b in inner_edges(mesh)
            if (a, b) not in edges and height_over(a, b, mesh[(a, b)], mesh[(b, a)]) == 0]
    return (rows, links_of(rows, mesh, flat))


def bound_wrong(sites, told, triangles):
    """The least edge at which a triangulation with told edges is not right for them, or None."""
    rows = ascending(sites)
    edges = told_edges(told, rows)
    mesh = triangulation(rows, triangles)
    if len(mesh) > 0 and not all([(a, b) in mesh or (b, a) in mesh for a, b in edges]):
        raise InvalidTriangles(len(triangles))
    check_limit(rows, MOST_BOUND)
    return min([edge for edge in wrong_in(mesh) if edge not in edges], default=None)


def crossed(sites, triangles, a, b):
    """The edges of a triangulation that the stretch between two sites crosses, in their order."""
    rows = ascending(sites)
    mesh = triangulation(rows, triangles)
    check_two(a, b, rows)
    check_limit(rows, MOST_BOUND)
    found = crossing_edges(mesh, a, b)
    # How far from a they are crossed: a share of the way, by the areas at both ends.
    shares = [(abs(turn(c, d, a)), abs(turn(c, d, a)) + abs(turn(c, d, b))) for c, d in found]
    return [edge for _, edge in sorted(list(zip(order_keys(shares), found)))]
