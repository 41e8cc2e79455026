"""Slow and plain ways to tell hulls, edges, faces and triangulations."""

from fractions import Fraction
from itertools import combinations, permutations

from tests import exact


def turn(a, b, c):
    """Double area, by the formula of the corners' products."""
    corners = (a, b, c)
    return sum(p[0] * q[1] - q[0] * p[1] for p, q in zip(corners, corners[1:] + corners[:1]))


def in_row(sites):
    return all(turn(a, b, c) == 0 for a, b, c in combinations(sites, 3))


def strictly_between(a, b, c):
    return c != a and c != b and exact.is_between(a, b, c)


def border_ways(sites):
    """The tuples (a, b) with no site on the right of the way, and none between."""
    return [(a, b) for a, b in permutations(sites, 2)
            if all(turn(a, b, s) >= 0 and not strictly_between(a, b, s) for s in sites)]


def border(sites):
    if in_row(sites):
        return sorted(sites)
    following = dict(border_ways(sites))
    told = [min(following)]
    while following[told[-1]] != told[0]:
        told.append(following[told[-1]])
    return told


def hull(sites):
    around = border(sites)
    return [s for s in around if not any(strictly_between(a, b, s) for a, b in combinations(sites, 2)
                                         if s in around and a in around and b in around)]


def double_hull(sites):
    """By the formula of the trapezoids."""
    corners = hull(sites)
    return sum((p[0] - q[0]) * (p[1] + q[1]) for p, q in zip(corners, corners[1:] + corners[:1]))


def where(sites, x, y, ways=None):
    """By the half-planes through two sites with no site on the right: ways are those."""
    point = (x, y)
    if in_row(sites):
        ends = (min(sites), max(sites))
        inside = turn(*ends, point) == 0 and ends[0] <= point <= ends[1]
        return 0 if inside else -1
    least = min(turn(a, b, point) for a, b in ways or border_ways(sites))
    return exact.compare(least, 0)


def layers(sites):
    told = []
    while sites:
        told.append(border(sites))
        sites = [s for s in sites if s not in told[-1]]
    return told


def seen_sides(sites, site):
    around = border(sites)
    sides = list(zip(around, around[1:] + around[:1]))
    if in_row(sites):
        sides = list(zip(around, around[1:])) + list(zip(around[::-1], around[-2::-1]))
    following = dict(side for side in sides if turn(*side, site) < 0)
    starts = [a for a in following if a not in following.values()]
    told = [(a, following[a]) for a in starts]
    while len(told) < len(following):
        told.append((told[-1][1], following[told[-1][1]]))
    return told


def bounds(sites, a, b):
    """What centres tells, by the distances of the centres for t = 0 and t = 1."""
    low, high = None, None
    for s in sites:
        if s in (a, b):
            continue
        # All numbers twice as large, so that the middle is whole.
        room = []
        for t in (0, 2):
            x = a[0] + b[0] - t * (b[1] - a[1])
            y = a[1] + b[1] + t * (b[0] - a[0])
            far, near = [(x - 2 * q[0]) ** 2 + (y - 2 * q[1]) ** 2 for q in (s, a)]
            room.append(far - near)
        slope = room[1] - room[0]
        if slope == 0:
            if room[0] < 0:
                return None
        elif slope > 0:
            low = Fraction(-room[0], slope) if low is None else max(low, Fraction(-room[0], slope))
        else:
            high = Fraction(-room[0], slope) if high is None else min(high, Fraction(-room[0], slope))
    return (low, high)


def is_edge(sites, a, b):
    found = bounds(sites, a, b)
    return found is not None and (None in found or found[0] < found[1])


def edges(sites):
    return [(a, b) for a, b in combinations(sorted(sites), 2) if is_edge(sites, a, b)]


def faces(sites):
    """From the empty circles through three sites."""
    found = {}
    for three in combinations(sites, 3):
        point = exact.centre(*three)
        if point is None or point in found:
            continue
        square = exact.distance(*point, three[0])
        rooms = {s: exact.distance(*point, s) - square for s in sites}
        if min(rooms.values()) == 0:
            found[point] = border([s for s in sites if rooms[s] == 0])
    return sorted(found.values())


def neighbours(sites, pairs, around, site):
    """From the edges and the border, put in order by turns."""
    joined = [b if a == site else a for a, b in pairs if site in (a, b)]
    if in_row(sites):
        return sorted(joined)
    first = around[around.index(site) + 1 - len(around)] if site in around else min(joined)
    told = [first]
    while len(told) < len(joined):
        # The next one turning left: no other one is met ahead of it.
        rest = [s for s in joined if s not in told]
        told.append([s for s in rest if all(s == q or comes_before(site, told[-1], s, q)
                                            for q in rest)][0])
    return told


def comes_before(site, start, one, other):
    """Whether someone who turns left from start meets one ahead of other."""
    def half(s):
        area = turn(site, start, s)
        scalar = (start[0] - site[0]) * (s[0] - site[0]) + (start[1] - site[1]) * (s[1] - site[1])
        return 0 if area > 0 else (1 if area == 0 and scalar < 0 else 2)
    if half(one) != half(other):
        return half(one) < half(other)
    return turn(site, one, other) > 0


def fans(found):
    return sorted((face[0], face[k], face[k + 1]) for face in found for k in range(1, len(face) - 1))


def overlap(one, other):
    """Whether two triangles have a common area: no side parts them."""
    for p, q in ((one, other), (other, one)):
        for a, b, c in ((p[0], p[1], p[2]), (p[1], p[2], p[0]), (p[2], p[0], p[1])):
            mine = exact.compare(turn(a, b, c), 0)
            if all(turn(a, b, s) * mine <= 0 for s in q):
                return False
    return True


def is_triangulation(sites, triangles):
    """For a list of tuples of three sites that are not in a row."""
    if in_row(sites):
        return triangles == []
    area = sum(abs(turn(*three)) for three in triangles)
    corners = {s for three in triangles for s in three}
    sides = {pair for three in triangles for pair in combinations(three, 2)}
    return (area == double_hull(sites) and corners == set(sites)
            and not any(overlap(p, q) for p, q in combinations(triangles, 2))
            and not any(strictly_between(a, b, s) for a, b in sides for s in sites))


def told(three):
    """A triangle from its least corner on, turning left."""
    a, b, c = sorted(three)
    return (a, b, c) if turn(a, b, c) > 0 else (a, c, b)


def inner_edges(triangles):
    """The edges between two triangles, each with both third corners."""
    found = {}
    for three in triangles:
        for a, b in combinations(sorted(three), 2):
            found.setdefault((a, b), []).append([s for s in three if s not in (a, b)][0])
    return {edge: thirds for edge, thirds in found.items() if len(thirds) == 2}


def wrong_edges(triangles):
    return sorted(edge for edge, (c, d) in inner_edges(triangles).items()
                  if exact.in_circle(*edge, c, d) > 0)


def can_flip(edge, c, d):
    """Both stretches have a point in common that is an end of neither."""
    (a, b) = edge
    crossing = turn(a, b, c) * turn(a, b, d) < 0 and turn(c, d, a) * turn(c, d, b) < 0
    return crossing


def flipped(triangles, edge):
    c, d = inner_edges(triangles)[edge]
    kept = [three for three in triangles if not set(edge) <= set(three)]
    return sorted(told(three) for three in kept + [(c, d, edge[0]), (c, d, edge[1])])


def straightened(triangles):
    gone = []
    triangles = sorted(told(three) for three in triangles)
    while wrong_edges(triangles):
        gone.append(wrong_edges(triangles)[0])
        triangles = flipped(triangles, gone[-1])
    return (gone, triangles)


def placed(sites):
    triangles, before = [], []
    for site in sorted(sites):
        if before:
            triangles += [told((a, b, site)) for a, b in seen_sides(before, site)]
        before.append(site)
    return sorted(triangles)


def steps(order):
    told_steps, before = [], []
    for many in range(1, len(order) + 1):
        now = edges(order[:many])
        told_steps.append(([e for e in before if e not in now], [e for e in now if e not in before]))
        before = now
    return told_steps
