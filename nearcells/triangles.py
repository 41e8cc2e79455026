"""Triangles that a caller passes: whether they are a triangulation of sites."""

from nearcells.checks import turn_of_sites
from nearcells.errors import InvalidTriangles
from nearcells.outline import chains_of


def triangulation(rows, value):
    """The mesh of a value that is a triangulation of ascending sites, as mesh.mesh_of makes it.

    Raises InvalidTriangles for every other value.
    """
    if not isinstance(value, list):
        raise InvalidTriangles(-1)
    known = set(rows)
    mesh = {}
    for at, item in enumerate(value):
        if not isinstance(item, tuple) or len(item) != 3:
            raise InvalidTriangles(at)
        a, b, c = item
        area = turn_of_sites(a, b, c)
        if area is None or area == 0 or a not in known or b not in known or c not in known:
            raise InvalidTriangles(at)
        if area < 0:
            b, c = c, b
        mesh[(a, b)], mesh[(b, c)], mesh[(c, a)] = c, a, b
    if len(mesh) != 3 * len(value) or not fills(rows, mesh):
        raise InvalidTriangles(len(value))
    return mesh


def fills(rows, mesh):
    """Whether triangles, no two of them on one side of an edge, fill the hull.

    They do so without overlaps exactly if none but the sides of the border have
    a triangle on one side alone: then what lies within is covered once.
    """
    low, high = chains_of(rows, 0)
    if len(low) == len(high) == len(rows):
        return True
    met = {a: True for a, b in mesh}
    around = low + high[-2::-1]
    sides = {side: True for side in zip(around, around[1:])}
    outer = [(a, b) for a, b in mesh if (b, a) not in mesh]
    return len(met) == len(rows) and all([side in sides for side in outer])
