"""Triangles that a caller passes: whether they are a triangulation of sites."""

from nearcells.checks import is_site
from nearcells.errors import InvalidTriangles
from nearcells.mesh import mesh_of
from nearcells.outline import is_row, sides_of
from nearcells.plane import turn


def triangulation(rows, value):
    """The mesh of a value that is a triangulation of ascending sites.

    Raises InvalidTriangles for every other value.
    """
    if not isinstance(value, list):
        raise InvalidTriangles(-1)
    known = {site: True for site in rows}
    turned = []
    for at, item in enumerate(value):
        if not is_triangle(item, known):
            raise InvalidTriangles(at)
        a, b, c = item
        turned.append(item if turn(a, b, c) > 0 else (a, c, b))
    mesh = mesh_of(turned)
    if len(mesh) != 3 * len(turned) or not fills(rows, mesh):
        raise InvalidTriangles(len(value))
    return mesh


def is_triangle(item, known):
    """Whether a value is a tuple of three known sites that are not in a row."""
    if not isinstance(item, tuple) or len(item) != 3:
        return False
    a, b, c = item
    if not is_site(a) or not is_site(b) or not is_site(c):
        return False
    return a in known and b in known and c in known and turn(a, b, c) != 0


def fills(rows, mesh):
    """Whether triangles, no two of them on one side of an edge, fill the hull.

    They do so without overlaps exactly if none but the sides of the border have
    a triangle on one side alone: then what lies within is covered once.
    """
    if is_row(rows):
        return True
    met = {a: True for a, b in mesh}
    sides = {side: True for side in sides_of(rows)}
    outer = [side for side in mesh if (side[1], side[0]) not in mesh]
    return len(met) == len(rows) and all([side in sides for side in outer])
