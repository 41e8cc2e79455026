"""Triangulations that are changed by flips, and sites that are put in one by one."""

from heapq import heapify, heappop, heappush

from nearcells.checks import ascending, check_sites, is_site
from nearcells.errors import InvalidBound
from nearcells.growing import Growing
from nearcells.mesh import (can_flip, flip, is_wrong, mesh_of, swept, told_edge, told_triangles,
                            wrong_in)
from nearcells.plane import turn
from nearcells.triangles import triangulation


def wrong_edges(sites, triangles):
    """The edges at which one circle has the third corner of the other side inside, ascending."""
    mesh = triangulation(ascending(sites), triangles)
    return sorted(wrong_in(mesh))


def flipped(sites, triangles, edge):
    """The told triangles behind the flip of an edge."""
    mesh = triangulation(ascending(sites), triangles)
    check_flip(mesh, edge)
    flip(mesh, edge[0], edge[1])
    return told_triangles(mesh)


def check_flip(mesh, edge):
    """Raise InvalidBound for what is no edge (a, b), a less than b, that can be flipped."""
    if not isinstance(edge, tuple) or len(edge) != 2 or not is_site(edge[0]) or not is_site(edge[1]):
        raise InvalidBound("edge")
    a, b = edge
    if a >= b or (a, b) not in mesh or (b, a) not in mesh or not can_flip(mesh, a, b):
        raise InvalidBound("edge")


def straightened(sites, triangles):
    """The edges that are flipped, the least wrong one first, and the told triangles at the end."""
    mesh = triangulation(ascending(sites), triangles)
    ahead = wrong_in(mesh)
    heapify(ahead)
    gone = []
    while len(ahead) > 0:
        a, b = heappop(ahead)
        # A flip beside it may have made it right, or it stood there twice.
        if (a, b) in mesh and (b, a) in mesh and is_wrong(mesh, a, b):
            gone.append((a, b))
            c, d = flip(mesh, a, b)
            for edge in (told_edge(a, d), told_edge(d, b), told_edge(b, c), told_edge(c, a)):
                heappush(ahead, edge)
    return (gone, told_triangles(mesh))


def placed(sites):
    """The told triangles that come if each site makes them with the sides that it sees."""
    return told_triangles(mesh_of(swept(ascending(sites))))


def volume(sites, triangles):
    """Six times the volume under the lifted triangles of a triangulation."""
    mesh = triangulation(ascending(sites), triangles)
    return sum([turn(a, b, c) * (lift(a) + lift(b) + lift(c)) for a, b, c in told_triangles(mesh)])


def lift(site):
    """The height of the lift of a site."""
    return site[0] * site[0] + site[1] * site[1]


def steps(order):
    """For each site that is put in, the edges that go and the edges that come, ascending."""
    check_sites(order)
    growing, told = Growing(), []
    for site in order:
        gone, joined = growing.put(site)
        ends = [order[at] for at in joined]
        come = [(other, site) if other < site else (site, other) for other in ends]
        told.append((sorted([told_edge(order[a], order[b]) for a, b in gone]), sorted(come)))
    return told
