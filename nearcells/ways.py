"""All triangulations of few sites, the flips between them, and their angles."""

from nearcells.checks import ascending, check_limit
from nearcells.links import empty_mesh
from nearcells.mesh import can_flip, inner_edges, told_triangles
from nearcells.outline import is_row
from nearcells.pieces import Pieces, reached_ways
from nearcells.plane import height_over, on_stretch, turn
from nearcells.triangles import triangulation
from nearcells.wholes import fraction, order_keys

MOST_CUT = 9
MOST_SURE = 40


def all_ways(sites):
    """All triangulations of at most nine sites, ascending."""
    rows = ascending(sites)
    check_limit(rows, MOST_CUT)
    pieces = Pieces(rows)
    ways = reached_ways(pieces.fours, pieces.way_of(empty_mesh(rows)), None)
    return sorted([pieces.told(way) for way in ways])


def sure_edges(sites):
    """The edges that all triangulations of at most forty sites have, ascending."""
    rows = ascending(sites)
    check_limit(rows, MOST_SURE)
    if is_row(rows):
        return list(zip(rows, rows[1:]))
    pairs = [(a, b) for at, a in enumerate(rows) for b in rows[at + 1:]]
    return [(a, b) for a, b in pairs if is_sure(rows, a, b)]


def is_sure(rows, a, b):
    """Whether no site is between two sites, and no stretch between others crosses theirs."""
    left, right = [], []
    for site in rows:
        area = turn(a, b, site)
        if area > 0:
            left.append(site)
        elif area < 0:
            right.append(site)
        elif a != site != b and on_stretch(a, b, site):
            return False
    for c in left:
        for d in right:
            if turn(d, c, a) > 0 and turn(d, c, b) < 0:
                return False
    return True


def flips(sites, triangles):
    """The edges of a triangulation that can be flipped, ascending."""
    mesh = triangulation(ascending(sites), triangles)
    return sorted([(a, b) for a, b in inner_edges(mesh) if can_flip(mesh, a, b)])


def fewest_flips(sites, one, other):
    """The least one of the shortest lists of edges whose flips lead from one to other."""
    rows = ascending(sites)
    start, goal = triangulation(rows, one), triangulation(rows, other)
    check_limit(rows, MOST_CUT)
    pieces = Pieces(rows)
    way, end = pieces.way_of(start), pieces.way_of(goal)
    steps = reached_ways(pieces.fours, end, way)
    told = []
    while way != end:
        edge, way = least_flip(pieces.fours, steps, way)
        told.append(edge)
    return told


def least_flip(quads, steps, way):
    """The least edge whose flip leads nearer to where no steps are needed, and the way then."""
    found = []
    for sides, one, other, edge, across in quads:
        behind = way ^ one ^ other
        if way & sides == sides and steps.get(behind, steps[way]) < steps[way]:
            found.append((edge if way & one else across, behind))
    return min(found)


def angles(sites, triangles):
    """The cotangents of all angles of a triangulation, the greatest first."""
    mesh = triangulation(ascending(sites), triangles)
    return sorted_down([one for triangle in told_triangles(mesh) for one in cotangents(triangle)])


def cotangents(triangle):
    """The cotangents of the three angles of a triangle that turns left."""
    a, b, c = triangle
    return [cotangent(a, b, c), cotangent(b, c, a), cotangent(c, a, b)]


def cotangent(a, b, c):
    """The cotangent of the angle at a of a triangle that turns left."""
    scalar = (b[0] - a[0]) * (c[0] - a[0]) + (b[1] - a[1]) * (c[1] - a[1])
    return fraction(scalar, turn(a, b, c))


def sorted_down(fractions):
    """Fractions from the greatest one on."""
    return [one for _, one in sorted(list(zip(order_keys(fractions), fractions)), reverse=True)]


def best_way(sites):
    """The triangulation of at most nine sites whose list of cotangents is the least one."""
    rows = ascending(sites)
    check_limit(rows, MOST_CUT)
    pieces = Pieces(rows)
    # None but those that cut the faces are in question: flips of edges within a face lead to all.
    level = [quad for quad in pieces.fours if is_level(quad)]
    ways = reached_ways(level, pieces.way_of(empty_mesh(rows)), None)
    told = sorted([pieces.told(way) for way in ways])
    known = [one for triangle, _ in pieces.threes for one in cotangents(triangle)]
    ranks = {one: key for one, key in zip(known, order_keys(known))}
    lists = [sorted([ranks[one] for triangle in way for one in cotangents(triangle)], reverse=True)
             for way in told]
    return told[lists.index(min(lists))]


def is_level(quad):
    """Whether the four corners of a quad are on one circle."""
    _, _, _, (a, b), (c, d) = quad
    return height_over(a, b, c, d) == 0
