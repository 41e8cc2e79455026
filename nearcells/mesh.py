"""Triangulations of sites that are known to be valid, and how they are changed.

A mesh is a dict: for each triangle a, b, c that turns left it has the keys
(a, b), (b, c) and (c, a), each with the third corner. So a side of the border
has a key in one direction only, and sites in a row have an empty mesh.
"""

from nearcells.plane import height_over, turn


def mesh_of(triangles):
    """The mesh of triangles that turn left."""
    mesh = {}
    for a, b, c in triangles:
        mesh[(a, b)] = c
        mesh[(b, c)] = a
        mesh[(c, a)] = b
    return mesh


def told_triangles(mesh):
    """The triangles, each one from its least corner on, ascending."""
    return sorted([(a, b, c) for (a, b), c in mesh.items() if a < b and a < c])


def inner_edges(mesh):
    """The edges (a, b), a less than b, between two triangles."""
    return [(a, b) for a, b in mesh if a < b and (b, a) in mesh]


def swept(rows):
    """The triangles that ascending sites make, each with the sides that it sees."""
    triangles = []
    low, high = [rows[0]], [rows[0]]
    for site in rows[1:]:
        # What a site sees of the border before it lies about the last site.
        while len(low) > 1 and turn(low[-2], low[-1], site) < 0:
            triangles.append((low[-2], site, low[-1]))
            low.pop()
        while len(high) > 1 and turn(high[-1], high[-2], site) < 0:
            triangles.append((high[-1], site, high[-2]))
            high.pop()
        low.append(site)
        high.append(site)
    return triangles


def is_wrong(mesh, a, b):
    """Whether the circle of a triangle beside an inner edge has the other third corner inside."""
    return height_over(a, b, mesh[(a, b)], mesh[(b, a)]) < 0


def wrong_in(mesh):
    """The edges (a, b), a less than b, that are wrong."""
    wrong = []
    for (a, b), (x, y) in mesh.items():
        if a < b and (b, a) in mesh:
            ax, ay = a
            bx, by = b
            u, v = mesh[(b, a)]
            # By the angles at both third corners: are they more than two right ones?
            one = (ax - x) * (bx - x) + (ay - y) * (by - y)
            other = (ax - u) * (bx - u) + (ay - v) * (by - v)
            if one < 0 or other < 0:
                turn_one = (ax - x) * (by - y) - (ay - y) * (bx - x)
                turn_other = (bx - u) * (ay - v) - (by - v) * (ax - u)
                if one * turn_other + other * turn_one < 0:
                    wrong.append((a, b))
    return wrong


def can_flip(mesh, a, b):
    """Whether the two triangles beside an inner edge make a convex polygon of four corners."""
    c, d = mesh[(a, b)], mesh[(b, a)]
    return turn(d, c, a) > 0 and turn(d, c, b) < 0


def flip(mesh, a, b):
    """Exchange the two triangles beside an edge; returns the third corners, left one first."""
    c, d = mesh[(a, b)], mesh[(b, a)]
    del mesh[(a, b)], mesh[(b, a)]
    mesh[(d, b)] = c
    mesh[(b, c)] = d
    mesh[(c, d)] = b
    mesh[(c, a)] = d
    mesh[(a, d)] = c
    mesh[(d, c)] = a
    return (c, d)


def told_edge(a, b):
    """The edge between two sites, the lesser one first."""
    return (a, b) if a < b else (b, a)
