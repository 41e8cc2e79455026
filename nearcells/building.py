"""Triangulations that are changed by flips, and sites that are put in one by one."""

from heapq import heapify, heappop, heappush

from nearcells.checks import ascending, check_sites, is_site
from nearcells.errors import InvalidBound
from nearcells.mesh import (can_flip, empty_mesh, flip, inner_edges, is_joined, is_wrong,
                            joined_edges, mesh_of, put_into, swept, told_edge, told_triangles)
from nearcells.plane import turn
from nearcells.triangles import triangulation


def wrong_edges(sites, triangles):
    """The edges at which one circle has the third corner of the other side inside, ascending."""
    mesh = triangulation(ascending(sites), triangles)
    return sorted([(a, b) for a, b in inner_edges(mesh) if is_wrong(mesh, a, b)])


def flipped(sites, triangles, edge):
    """The told triangles behind the flip of an edge."""
    mesh = triangulation(ascending(sites), triangles)
    check_flip(mesh, edge)
    flip(mesh, edge[0], edge[1])
    return told_triangles(mesh)


def check_flip(mesh, edge):
    """Raise InvalidBound for what is no edge (a, b), a less than b, that can be flipped."""
    if not isinstance(edge, tuple) or len(edge) != 2 or not is_site(edge[0]) or not is_site(edge[1]):
        raise InvalidBound("edge")
    a, b = edge
    if a >= b or (a, b) not in mesh or (b, a) not in mesh or not can_flip(mesh, a, b):
        raise InvalidBound("edge")


def straightened(sites, triangles):
    """The edges that are flipped, the least wrong one first, and the told triangles at the end."""
    mesh = triangulation(ascending(sites), triangles)
    ahead = [(a, b) for a, b in inner_edges(mesh) if is_wrong(mesh, a, b)]
    heapify(ahead)
    gone = []
    while len(ahead) > 0:
        a, b = heappop(ahead)
        # A flip beside it may have made it right, or it stood there twice.
        if (a, b) in mesh and (b, a) in mesh and is_wrong(mesh, a, b):
            gone.append((a, b))
            c, d = flip(mesh, a, b)
            for edge in (told_edge(a, d), told_edge(d, b), told_edge(b, c), told_edge(c, a)):
                heappush(ahead, edge)
    return (gone, told_triangles(mesh))


def placed(sites):
    """The told triangles that come if each site makes them with the sides that it sees."""
    return told_triangles(mesh_of(swept(ascending(sites))))


def volume(sites, triangles):
    """Six times the volume under the lifted triangles of a triangulation."""
    mesh = triangulation(ascending(sites), triangles)
    return sum([turn(a, b, c) * (lift(a) + lift(b) + lift(c)) for a, b, c in told_triangles(mesh)])


def lift(site):
    """The height of the lift of a site."""
    return site[0] * site[0] + site[1] * site[1]


def steps(order):
    """For each site that is put in, the edges that go and the edges that come, ascending."""
    check_sites(order)
    mesh, joined, told = {}, {}, []
    for at, site in enumerate(order):
        touched = put_into(mesh, site)
        now = [(a, b) for a, b in touched if is_joined(mesh, a, b)]
        if len(mesh) == 0:
            # Sites in a row have no triangles that could tell the edges.
            rows = sorted(order[:at + 1])
            mesh = empty_mesh(rows)
            now = joined_edges(mesh, rows)
            touched = list(joined) + now
        gone, come = exchange(joined, touched, now)
        told.append((gone, come))
    return told


def exchange(joined, touched, now):
    """Make those edges joined that are so now; returns what goes and what comes."""
    kept = {edge: True for edge in now}
    gone = sorted([edge for edge in touched if edge in joined and edge not in kept])
    come = sorted([edge for edge in now if edge not in joined])
    for edge in gone:
        del joined[edge]
    for edge in come:
        joined[edge] = True
    return (gone, come)
