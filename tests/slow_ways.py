"""Slow and plain ways to tell all triangulations, folds, and what told edges make."""

from fractions import Fraction
from itertools import combinations

from tests import exact, slow


def is_open(sites, three):
    """Whether a triangle has no other site in it or on its border."""
    return not any(s not in three and not any(slow.turn(a, b, s) < 0 for a, b in sides(three)) for s in sites)


def sides(three):
    """The sides of a triangle or polygon that turns left."""
    return list(zip(three, three[1:] + three[:1]))


def all_ways(sites):
    """By filling what is left open: some side that has no triangle on its left yet."""
    if slow.in_row(sites):
        return [[]]
    threes = [slow.told(three) for three in combinations(sites, 3) if slow.turn(*three) != 0]
    threes = [three for three in threes if is_open(sites, three)]
    found, ahead = [], [([], slow.border_ways(sites))]
    while ahead:
        way, left = ahead.pop()
        if not left:
            found.append(sorted(way))
        else:
            for three in threes:
                if left[0] in sides(three) and not any(slow.overlap(three, other) for other in way):
                    ahead.append((way + [three], open_sides(left, three)))
    return sorted(found)


def open_sides(left, three):
    """What is left open behind a further triangle."""
    told = [side for side in left if side not in sides(three)]
    return told + [side[::-1] for side in sides(three) if side not in left]


def flips(way):
    return sorted(edge for edge, (c, d) in slow.inner_edges(way).items() if slow.can_flip(edge, c, d))


def distances(start):
    """How many flips lead to each triangulation from one."""
    found, ahead = {tuple(start): 0}, [start]
    while ahead:
        way = ahead.pop(0)
        for edge in flips(way):
            behind = slow.flipped(way, edge)
            if tuple(behind) not in found:
                found[tuple(behind)] = found[tuple(way)] + 1
                ahead.append(behind)
    return found


def cotangents(way):
    told = []
    for three in way:
        for a, b, c in (three, three[1:] + three[:1], three[2:] + three[:2]):
            scalar = (b[0] - a[0]) * (c[0] - a[0]) + (b[1] - a[1]) * (c[1] - a[1])
            told.append(Fraction(scalar, slow.turn(a, b, c)))
    return sorted(told, reverse=True)


def edges_of(sites, way):
    """The sides of the triangles; for sites in a row from each one to the next."""
    if slow.in_row(sites):
        return sorted(zip(sorted(sites), sorted(sites)[1:]))
    return sorted({pair for three in way for pair in combinations(sorted(three), 2)})


def crossing(a, b, c, d):
    return (slow.turn(a, b, c) * slow.turn(a, b, d) < 0) and (slow.turn(c, d, a) * slow.turn(c, d, b) < 0)


def fold(edge, c, d, heights):
    """The fold of an edge by its definition."""
    a, b = edge
    if slow.turn(a, b, c) < 0:
        c, d = d, c
    return (heights[d] * slow.turn(a, b, c) + heights[c] * slow.turn(b, a, d)
            - heights[a] * slow.turn(b, c, d) - heights[b] * slow.turn(c, a, d))


def folds(way, heights):
    return {edge: fold(edge, c, d, heights) for edge, (c, d) in slow.inner_edges(way).items()}


def is_right(way, told):
    """Whether no edge that is not told has a circle with the other third corner inside."""
    return not any(edge not in told and exact.in_circle(*edge, c, d) > 0
                   for edge, (c, d) in slow.inner_edges(way).items())


def right_ways(sites, told):
    """All triangulations that are right for told edges."""
    return [way for way in all_ways(sites)
            if set(told) <= set(edges_of(sites, way)) and is_right(way, told)]


def merged(way, told):
    """The faces: what triangles with one circle make over sides that are not told."""
    groups = [[three] for three in way]
    for edge, (c, d) in slow.inner_edges(way).items():
        if edge not in told and exact.in_circle(*edge, c, d) == 0:
            both = [group for group in groups if any(set(edge) <= set(three) for three in group)
                    and any({c, *edge} == set(three) or {d, *edge} == set(three) for three in group)]
            if len(both) == 2:
                groups = [group for group in groups if group not in both] + [both[0] + both[1]]
    return sorted(slow.border(sorted({s for three in group for s in three})) for group in groups)
