"""Slow and plain ways to tell cells, distances, trees, and what changes."""

from fractions import Fraction
from itertools import combinations

from tests import exact, slow

VAST = 10 ** 100


def point(a, b, t):
    """The point that is as far from two sites, t as in centres."""
    if t is None:
        return None
    return (Fraction(a[0] + b[0], 2) - t * (b[1] - a[1]), Fraction(a[1] + b[1], 2) + t * (b[0] - a[0]))


def borders(sites, site):
    """What cell tells, with points instead of places."""
    found = []
    for other in sorted(sites):
        if other != site and slow.is_edge(sites, site, other):
            low, high = slow.bounds(sites, site, other)
            found.append((other, point(site, other, low), point(site, other, high)))
    if slow.in_row(sites) or not found:
        return found
    ends = {begin: (other, begin, end) for other, begin, end in found}
    told = [ends[None] if None in ends else ends[min(ends)]]
    while len(told) < len(found):
        told.append(ends[told[-1][2]])
    return told


def as_place(p):
    return None if p is None else exact.place_of(*p)


def as_point(place):
    return (Fraction(place[0], place[2]), Fraction(place[1], place[2]))


def clip(polygon, u, v, w):
    """The part of a polygon of points for which u * x + v * y is at most w."""
    kept = []
    for (x, y), (p, q) in zip(polygon[-1:] + polygon[:-1], polygon):
        one, other = w - u * x - v * y, w - u * p - v * q
        if one * other < 0:
            share = one / (one - other)
            kept.append((x + share * (p - x), y + share * (q - y)))
        if other >= 0:
            kept.append((p, q))
    return kept


def nearer_part(polygon, one, other):
    """The part of a polygon that is at least as near to one point as to another one."""
    u, v = 2 * (other[0] - one[0]), 2 * (other[1] - one[1])
    return clip(polygon, u, v, other[0] ** 2 + other[1] ** 2 - one[0] ** 2 - one[1] ** 2)


def area(polygon):
    """The double area, by trapezoids."""
    pairs = zip(polygon, polygon[1:] + polygon[:1])
    return sum(((x - p) * (y + q) for (x, y), (p, q) in pairs), Fraction(0))


def cell_part(sites, site, polygon):
    for other in sites:
        if other != site:
            polygon = nearer_part(polygon, site, other)
    return polygon


def box_corners(left, low, right, high):
    return [(Fraction(x), Fraction(y)) for x, y in ((left, low), (right, low), (right, high), (left, high))]


def along(sites, a, b):
    """From the part of the way on which each site is as near as every other one."""
    (ax, ay), (bx, by) = as_point(a), as_point(b)
    found = []
    for s in sites:
        low, high = Fraction(0), Fraction(1)
        for q in sites:
            begin = exact.distance(ax, ay, q) - exact.distance(ax, ay, s)
            end = exact.distance(bx, by, q) - exact.distance(bx, by, s)
            if begin < 0 and end <= 0:
                high = Fraction(-1)
            elif begin < 0:
                low = max(low, begin / (begin - end))
            elif end < 0:
                high = min(high, begin / (begin - end))
        if low < high:
            found.append((low, s))
    return [s for _, s in sorted(found)]


def meeting(sites, place):
    rooms = {s: exact.distance(*as_point(place), s) for s in sites}
    return sorted(s for s in sites if rooms[s] == min(rooms.values()))


def enclosing(sites):
    """The smallest circle: the point and the square, by all pairs and triples."""
    found = [((Fraction(x), Fraction(y)), Fraction(0)) for x, y in sites[:1]]
    for a, b in combinations(sites, 2):
        middle = point(a, b, 0)
        found.append((middle, exact.distance(*middle, a)))
    for three in combinations(sites, 3):
        middle = exact.centre(*three)
        if middle is not None:
            found.append((middle, exact.distance(*middle, three[0])))
    fits = [(square, middle) for middle, square in found
            if all(exact.distance(*middle, s) <= square for s in sites)]
    return min(fits)[::-1]


def papers(sites, middle, square):
    """All papers of the circle, each one ascending: pairs first, then triples."""
    on = sorted(s for s in sites if exact.distance(*middle, s) == square)
    if square == 0:
        return [tuple(on)]
    pairs = [(a, b) for a, b in combinations(on, 2) if point(a, b, 0) == middle]
    triples = [three for three in combinations(on, 3)
               if len({exact.compare(slow.turn(p, q, middle), 0)
                       for p, q in zip(three, three[1:] + three[:1])}) == 1
               and slow.turn(three[0], three[1], middle) != 0]
    return pairs + triples


def largest_empty(sites):
    """By all places as far from three sites, and those on the border as far from two."""
    found = {(Fraction(x), Fraction(y)) for x, y in sites}
    found |= {exact.centre(*three) for three in combinations(sites, 3)} - {None}
    around = slow.border(sites)
    sides = list(zip(around, around[1:] + around[:1])) if len(sites) > 1 else []
    for a, b in combinations(sites, 2):
        for p, q in sides:
            # Where p + t * (q - p) is as far from a as from b.
            begin = exact.distance(*p, b) - exact.distance(*p, a)
            end = exact.distance(*q, b) - exact.distance(*q, a)
            if begin != end:
                t = Fraction(begin, 1) / (begin - end)
                found.add((p[0] + t * (q[0] - p[0]), p[1] + t * (q[1] - p[1])))
    ways = slow.border_ways(sites)
    rooms = {spot: min(exact.distance(*spot, s) for s in sites) for spot in found
             if slow.where(sites, *spot, ways) >= 0}
    best = max(rooms.values())
    spots = sorted(spot for spot, square in rooms.items() if square == best)
    return (exact.pair(best), [(as_place(spot), meeting(sites, as_place(spot))) for spot in spots])


def locate(sites, place):
    x, y = as_point(place)
    if (x, y) in sites:
        return ("site", (int(x), int(y)))
    for a, b in slow.edges(sites):
        if slow.turn(a, b, (x, y)) == 0 and a <= (x, y) <= b:
            return ("edge", (a, b))
    for face in slow.faces(sites):
        if all(slow.turn(a, b, (x, y)) > 0 for a, b in zip(face, face[1:] + face[:1])):
            return ("face", face)
    return ("outside", None)


def length(pair):
    return exact.distance(*pair[0], pair[1])


def nearest_pairs(sites):
    pairs = list(combinations(sorted(sites), 2))
    return [pair for pair in pairs
            if any(length(pair) == min(length(q) for q in pairs if s in q) for s in pair)]


def reached_from(site, pairs):
    """All sites that pairs join with one."""
    reached, ahead = set(), {site}
    while ahead:
        reached |= ahead
        ahead = {b for pair in pairs for a, b in (pair, pair[::-1]) if a in reached} - reached
    return reached


def is_joined(sites, pairs):
    """Whether pairs join all sites."""
    return len(reached_from(sites[0], pairs)) == len(sites)


def least_trees(sites):
    """All least trees of few sites."""
    pairs = list(combinations(sorted(sites), 2))
    trees = [some for some in combinations(pairs, len(sites) - 1) if is_joined(sites, some)]
    lengths = {tree: sorted(length(pair) for pair in tree) for tree in trees}
    return [tree for tree in trees if lengths[tree] == min(lengths.values())]


def pieces(sites, square):
    """The parts by steps of at most four times the square."""
    left, many = set(sites), 0
    while left:
        many += 1
        ahead = {min(left)}
        while ahead:
            left -= ahead
            ahead = {b for b in left for a in ahead if length((a, b)) <= 4 * square}
    return many


def reach(sites, a, b):
    """The least squared distance from an edge's site of what both cells share."""
    low, high = slow.bounds(sites, a, b)
    t = max(Fraction(0), low) if low is not None else Fraction(0)
    t = min(t, high) if high is not None else t
    return exact.distance(*point(a, b, t), a)


def covering(sites, place):
    inside, on = [], []
    for face in slow.faces(sites):
        middle = exact.centre(*face[:3])
        spot = as_point(place)
        room = (spot[0] - middle[0]) ** 2 + (spot[1] - middle[1]) ** 2
        square = exact.distance(*middle, face[0])
        if room <= square:
            (inside if room < square else on).append(face)
    return (inside, on)


def shares(sites, place):
    spot = as_point(place)
    if spot in sites:
        return [((int(spot[0]), int(spot[1])), (1, 1))]
    if slow.where(sites, *spot) < 1:
        return None
    new = box_corners(-VAST, -VAST, VAST, VAST)
    for s in sites:
        new = nearer_part(new, spot, s)
    parts = {s: area(cell_part(sites, s, new)) / area(new) for s in sorted(sites)}
    return [(s, exact.pair(part)) for s, part in parts.items() if part]
