"""Edges that a caller tells ahead, and the triangulations that have them."""

from nearcells.checks import is_site
from nearcells.errors import InvalidBound
from nearcells.links import empty_mesh
from nearcells.mesh import can_flip, flip, inner_edges, is_wrong, told_edge
from nearcells.plane import on_stretch, turn

MOST_TOLD = 200


def told_edges(value, rows):
    """The told edges of ascending sites, each one once with the lesser site first, as a dict.

    Raises InvalidBound for what is no list of edges that have no point in common but ends.
    """
    if not isinstance(value, list) or len(value) > MOST_TOLD:
        raise InvalidBound("told")
    known = {site: True for site in rows}
    edges = {}
    for item in value:
        if not is_stretch(item, known):
            raise InvalidBound("told")
        edges[told_edge(item[0], item[1])] = True
    for a, b in edges:
        if is_split(rows, a, b) or is_crossed(edges, a, b):
            raise InvalidBound("told")
    return edges


def is_stretch(item, known):
    """Whether a value is a tuple of two unlike known sites."""
    if not isinstance(item, tuple) or len(item) != 2:
        return False
    a, b = item
    return is_site(a) and is_site(b) and a != b and a in known and b in known


def is_split(rows, a, b):
    """Whether another site lies on the stretch between two."""
    return any([a != site != b and on_stretch(a, b, site) for site in rows])


def is_crossed(edges, a, b):
    """Whether one of some edges crosses the stretch between two sites."""
    return any([do_cross(a, b, c, d) for c, d in edges])


def do_cross(a, b, c, d):
    """Whether two stretches have just one point in common, which is an end of neither."""
    one, other = turn(a, b, c), turn(a, b, d)
    if (one <= 0 or other >= 0) and (one >= 0 or other <= 0):
        return False
    one, other = turn(c, d, a), turn(c, d, b)
    return (one > 0 and other < 0) or (one < 0 and other > 0)


def crossing_edges(mesh, a, b):
    """The edges (c, d), c less than d, of a mesh that cross the stretch between two sites."""
    return [(c, d) for c, d in inner_edges(mesh) if do_cross(a, b, c, d)]


def bound_mesh(rows, edges):
    """A triangulation that is right for told edges."""
    mesh = empty_mesh(rows)
    for a, b in edges:
        put_edge(mesh, a, b)
    straighten_beside(mesh, edges)
    return mesh


def put_edge(mesh, a, b):
    """Flip what crosses the stretch between two sites, until it is an edge."""
    ahead = crossing_edges(mesh, a, b)
    while len(ahead) > 0:
        behind = []
        for c, d in ahead:
            if can_flip(mesh, c, d):
                c, d = flip(mesh, c, d)
            if do_cross(a, b, c, d):
                behind.append(told_edge(c, d))
        ahead = behind


def straighten_beside(mesh, edges):
    """Flip wrong edges that are not told until there is none."""
    ahead = inner_edges(mesh)
    while len(ahead) > 0:
        c, d = ahead.pop()
        edge = told_edge(c, d)
        if edge not in edges and (c, d) in mesh and (d, c) in mesh and is_wrong(mesh, c, d):
            left, right = flip(mesh, c, d)
            ahead.extend([(c, right), (right, d), (d, left), (left, c)])
