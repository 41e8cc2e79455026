"""Triangulations of few sites as sets of edges, and the flips that lead from one to another.

The sites are numbered in ascending order, and so are their pairs. A set of pairs, or of
sites, is an integer that has a bit for each of them.
"""

from itertools import combinations

from nearcells.mesh import told_edge
from nearcells.plane import turn


class Pieces:
    """What all triangulations of ascending sites are made of.

    bits has the bit of each pair (a, b), a less than b. threes are the triangles with no
    further site in them or on their sides, ascending, each with its sides: tuples
    (triangle, sides). fours are the convex polygons that two such triangles make: tuples
    (sides, one, other, edge, across) with the bits of both diagonals, and these.
    """

    def __init__(self, rows):
        self.bits = {pair: 1 << at for at, pair in enumerate(list(combinations(rows, 2)))}
        self.threes = []
        thirds = {}
        for a, b, c in open_triangles(rows):
            self.threes.append(((a, b, c), self.sides_of(a, b, c)))
            for side, third in (((a, b), c), ((b, c), a), ((c, a), b)):
                thirds.setdefault(side, []).append(third)
        self.fours = []
        for a, b in self.bits:
            for c in thirds.get((a, b), []):
                self.fours.extend([self.quad_of(a, b, c, d) for d in thirds.get((b, a), [])
                                   if is_first_diagonal(a, b, c, d)])

    def sides_of(self, a, b, c):
        """The bits of the sides of a triangle."""
        return self.bits[told_edge(a, b)] + self.bits[told_edge(b, c)] + self.bits[told_edge(c, a)]

    def quad_of(self, a, b, c, d):
        """What fours has for the edge (a, b), c on its left and d on its right."""
        edge, across = (a, b), told_edge(c, d)
        sides = (self.sides_of(a, b, c) | self.sides_of(a, b, d)) - self.bits[edge]
        return (sides, self.bits[edge], self.bits[across], edge, across)

    def told(self, way):
        """The told triangles of a triangulation."""
        return [triangle for triangle, sides in self.threes if way & sides == sides]

    def way_of(self, mesh):
        """The edges of a mesh, as a triangulation."""
        return sum([self.bits[edge] for edge in self.bits if edge in mesh or edge[::-1] in mesh])


def is_first_diagonal(a, b, c, d):
    """Whether a, d, b, c make a convex polygon, and a and b are the lesser one of its diagonals."""
    if (a, b) > told_edge(c, d):
        return False
    return turn(d, c, a) > 0 and turn(d, c, b) < 0


def open_triangles(rows):
    """The triangles of ascending sites with no further one in them, ascending, turning left."""
    # For each way from a site to another one, the sites that are not on its right.
    left = {}
    for (i, a), (j, b) in combinations(list(enumerate(rows)), 2):
        turns = [turn(a, b, site) for site in rows]
        left[(i, j)] = sum([1 << k for k, area in enumerate(turns) if area >= 0])
        left[(j, i)] = sum([1 << k for k, area in enumerate(turns) if area <= 0])
    told = []
    for i, j, k in combinations(list(range(len(rows))), 3):
        corners = (1 << i) + (1 << j) + (1 << k)
        # The third corner is on one side of the line only, unless all are in a row.
        if left[(i, j)] & left[(j, k)] & left[(k, i)] == corners and not left[(j, i)] >> k & 1:
            told.append((rows[i], rows[j], rows[k]))
        elif left[(j, i)] & left[(k, j)] & left[(i, k)] == corners and not left[(i, j)] >> k & 1:
            told.append((rows[i], rows[k], rows[j]))
    return sorted(told)


def reached_ways(quads, start, goal):
    """How many flips within these quads lead to each triangulation, up to a goal or None."""
    steps = {start: 0}
    ahead = [start]
    while len(ahead) > 0 and goal not in steps:
        behind = []
        for way in ahead:
            for sides, one, other, _, _ in quads:
                # With all sides there is just one of the diagonals.
                if way & sides == sides and way ^ one ^ other not in steps:
                    steps[way ^ one ^ other] = steps[way] + 1
                    behind.append(way ^ one ^ other)
        ahead = behind
    return steps
