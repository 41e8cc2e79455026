"""Points 25 to 29: nearest and farthest sites, circles around and between them, and where a place is."""

import random
import unittest
from fractions import Fraction
from itertools import combinations, permutations

from nearcells.asks import (closest, farthest, is_smallest, largest_empty, locate, nearest,
                            smallest_circle)
from nearcells.hulls import hull, where
from nearcells.subdivision import Subdivision
from tests import exact, samples, slow, slow_cells
from tests.test_cells import some_places
from tests.wrong_values import neither, no_places, no_sites

FAR = 10 ** 6
LONGEST = 10 ** 30 - 1
THREE = [(0, 0), (4, 0), (1, 3)]
SQUARE = [(0, 0), (2, 0), (0, 2), (2, 2)]


class Examples(unittest.TestCase):
    def test_e301(self):
        self.assertEqual(nearest(THREE, (1, 1, 1), 2), [((2, 1), (0, 0)), ((4, 1), (1, 3))])
        self.assertEqual(locate(THREE, (2, 2, 1)), ("edge", ((1, 3), (4, 0))))
        self.assertEqual(locate(THREE, (3, 3, 1)), ("outside", None))

    def test_e302(self):
        s = SQUARE + [(1, 1)]
        self.assertEqual(smallest_circle(s), ((1, 1, 1), (2, 1), ((0, 0), (2, 2))))
        self.assertIs(is_smallest(s, (1, 1, 1), (2, 1), ((2, 0), (0, 2))), True)

    def test_e303(self):
        told = largest_empty([(0, 0), (4, 0), (0, 2)])
        self.assertEqual(told, ((5, 1), [((2, 1, 1), [(0, 0), (0, 2), (4, 0)])]))

    def test_of_the_points(self):
        self.assertEqual(closest(THREE), (10, [((0, 0), (1, 3))]))
        self.assertEqual(smallest_circle(THREE), ((2, 1, 1), (5, 1), ((0, 0), (1, 3), (4, 0))))
        self.assertEqual(largest_empty(THREE), ((5, 1), [((2, 1, 1), [(0, 0), (1, 3), (4, 0)])]))
        self.assertEqual(locate(SQUARE, (1, 1, 1)), ("face", [(0, 0), (2, 0), (2, 2), (0, 2)]))


class Nearest(unittest.TestCase):
    def test_one_if_nothing_is_told(self):
        self.assertEqual(nearest(THREE, (0, 0, 1)), [((0, 1), (0, 0))])
        self.assertEqual(nearest(THREE, (2, 1, 1)), [((5, 1), (0, 0)), ((5, 1), (1, 3)), ((5, 1), (4, 0))])
        self.assertEqual(nearest(sites=THREE, many=1, place=(0, 0, 1)), [((0, 1), (0, 0))])

    def test_those_as_near_as_the_last_one(self):
        s = SQUARE + [(1, 1)]
        self.assertEqual(len(nearest(s, (1, 1, 1), 1)), 1)
        self.assertEqual(nearest(s, (1, 1, 1), 2), [((0, 1), (1, 1))] + [((2, 1), q) for q in sorted(SQUARE)])
        self.assertEqual(nearest(s, (1, 1, 1), 200), nearest(s, (1, 1, 1), 5))

    def test_against_a_plain_way(self):
        for number, sites in enumerate(samples.small()):
            for place in some_places(sites, 5, number):
                for many in (1, 2, 3, len(sites), 9):
                    rows = sorted((exact.distance(*slow_cells.as_point(place), s), s) for s in sites)
                    last = rows[:many][-1][0]
                    right = [(exact.pair(square), s) for square, s in rows if square <= last]
                    self.assertEqual(nearest(sites, place, many), right)

    def test_each_other_site_has_a_nearer_neighbour(self):
        for number, sites in enumerate(samples.middling()):
            sub = Subdivision(sites)
            for place in some_places(sites, 3, number):
                spot = slow_cells.as_point(place)
                told = nearest(sites, place, 200)
                for square, s in told:
                    if square != told[0][0]:
                        least = min(exact.distance(*spot, q) for q in sub.neighbours(s))
                        self.assertLess(least, Fraction(*square))


class Pairs(unittest.TestCase):
    def test_single(self):
        self.assertIsNone(closest([(1, 1)]))
        self.assertIsNone(farthest([(1, 1)]))

    def test_against_a_plain_way(self):
        for sites in samples.small() + samples.middling() + samples.large()[:3]:
            pairs = list(combinations(sorted(sites), 2))
            if pairs:
                squares = {((a, b)): (a[0] - b[0]) ** 2 + (a[1] - b[1]) ** 2 for a, b in pairs}
                for told, best in ((closest(sites), min(squares.values())), (farthest(sites), max(squares.values()))):
                    self.assertEqual(told, (best, [pair for pair in pairs if squares[pair] == best]))
                    self.assertIs(type(told[0]), int)

    def test_facts(self):
        for sites in samples.middling() + samples.large():
            self.assertLessEqual(set(closest(sites)[1]), set(Subdivision(sites).edges()))
            self.assertLessEqual({s for pair in farthest(sites)[1] for s in pair}, set(hull(sites)))


class SmallestCircle(unittest.TestCase):
    def test_single_two_and_rows(self):
        self.assertEqual(smallest_circle([(3, 4)]), ((3, 4, 1), (0, 1), ((3, 4),)))
        self.assertEqual(smallest_circle([(3, 4), (0, 0)]), ((3, 4, 2), (25, 4), ((0, 0), (3, 4))))
        self.assertEqual(smallest_circle([(2, 0), (0, 0), (9, 0)]), ((9, 0, 2), (81, 4), ((0, 0), (9, 0))))

    def test_obtuse_right_and_acute(self):
        self.assertEqual(smallest_circle([(0, 0), (4, 0), (1, 1)])[2], ((0, 0), (4, 0)))
        self.assertEqual(smallest_circle([(0, 0), (4, 0), (0, 2)])[2], ((0, 2), (4, 0)))
        self.assertEqual(smallest_circle([(0, 0), (4, 0), (2, 3)])[2], ((0, 0), (2, 3), (4, 0)))

    def test_against_a_plain_way(self):
        for sites in samples.small() + samples.middling()[:4]:
            middle, square = slow_cells.enclosing(sites)
            right = (exact.place_of(*middle), exact.pair(square), slow_cells.papers(sites, middle, square)[0])
            self.assertEqual(smallest_circle(sites), right, sites)

    def test_large(self):
        for sites in samples.large():
            place, square, paper = smallest_circle(sites)
            self.assertIs(is_smallest(sites, place, square, paper), True)
            spot = slow_cells.as_point(place)
            self.assertEqual(max(exact.distance(*spot, s) for s in sites), Fraction(*square))

    def test_only_triples_on_a_large_ring(self):
        ring = [s for s in samples.far_ring() if (-s[0], -s[1]) > s]
        told = smallest_circle(ring[:80] + [samples.far_ring()[-1]])
        self.assertIs(is_smallest(ring[:80] + [samples.far_ring()[-1]], *told), True)


class IsSmallest(unittest.TestCase):
    def test_all_tuples_of_sites(self):
        for sites in samples.small(40, 6):
            if len(sites) > 6:
                continue
            middle, square = slow_cells.enclosing(sites)
            place, square = exact.place_of(*middle), exact.pair(square)
            right = slow_cells.papers(sites, middle, Fraction(*square))
            for many in (1, 2, 3):
                for paper in permutations(sites, many):
                    told = is_smallest(sites, place, square, paper)
                    self.assertIs(told, tuple(sorted(paper)) in right, (sites, paper))

    def test_a_triple_where_there_is_a_pair(self):
        s = samples.RING
        self.assertIs(is_smallest(s, (0, 0, 1), (25, 1), ((-3, -4), (5, 0), (-3, 4))), True)
        self.assertIs(is_smallest(s, (0, 0, 1), (25, 1), ((5, 0), (-5, 0))), True)
        # The centre is on a side of this triangle, and outside of the next one.
        self.assertIs(is_smallest(s, (0, 0, 1), (25, 1), ((5, 0), (-5, 0), (0, 5))), False)
        self.assertIs(is_smallest(s, (0, 0, 1), (25, 1), ((5, 0), (4, 3), (0, 5))), False)

    def test_other_circles(self):
        s = SQUARE
        pair = ((0, 0), (2, 2))
        self.assertIs(is_smallest(s, (1, 1, 1), (2, 1), pair), True)
        for place, square in (((1, 1, 1), (3, 1)), ((1, 1, 1), (1, 1)), ((1, 0, 1), (2, 1)), ((2, 2, 1), (8, 1)),
                              ((0, 0, 1), (0, 1)), ((1, 1, 1), (-2, 1))):
            for paper in (pair, ((0, 0),), ((0, 0), (2, 0), (2, 2))):
                self.assertIs(is_smallest(s, place, square, paper), False)
        # A paper that holds a circle which leaves out a site.
        self.assertIs(is_smallest(s + [(9, 9)], (1, 1, 1), (2, 1), pair), False)

    def test_other_objects(self):
        wrong = neither() + no_sites() + no_places() + [
            [(0, 0), (2, 2)], ((0, 0), (0, 0)), ((0, 0), (2, 2), (0, 0)), ((0, 0), (2, 2), (2, 0), (0, 2)),
            ((False, 0), (2, 2)), ((0, 0), (2, 2), None), ((1, 1),), ((0, 0), (2, 3))]
        for paper in wrong + [(value, (2, 2)) for value in no_sites()]:
            self.assertIs(is_smallest(SQUARE, (1, 1, 1), (2, 1), paper), False)
        for square in wrong + [2, (4, 2), (2, True), (2,), (2, 1, 1), [2, 1], (-2, -1), (2, 0), (True, 1), (0, 2)]:
            self.assertIs(is_smallest(SQUARE, (1, 1, 1), square, ((0, 0), (2, 2))), False)
        for square in (False, (False, 1), (0, True), (0, 2), [0, 1]):
            self.assertIs(is_smallest([(3, 4)], (3, 4, 1), square, ((3, 4),)), False)
        self.assertIs(is_smallest([(3, 4)], (3, 4, 1), (0, 1), ((3, 4),)), True)
        self.assertIs(is_smallest([(3, 4)], (3, 4, 1), (0, 1), ((3, 4), (3, 4))), False)
        self.assertIs(is_smallest([(3, 4)], (4, 4, 1), (1, 1), ((3, 4),)), False)


class LargestEmpty(unittest.TestCase):
    def test_single_and_rows(self):
        self.assertEqual(largest_empty([(3, 4)]), ((0, 1), [((3, 4, 1), [(3, 4)])]))
        told = largest_empty([(0, 0), (2, 0), (3, 0), (5, 0)])
        self.assertEqual(told, ((1, 1), [((1, 0, 1), [(0, 0), (2, 0)]), ((4, 0, 1), [(3, 0), (5, 0)])]))

    def test_on_the_border_of_an_obtuse_triangle(self):
        # The centre is outside; on the long side there are two places in two cells.
        told = largest_empty([(0, 0), (10, 0), (5, 1)])
        self.assertEqual(told[1][0][1], [(0, 0), (5, 1)])
        self.assertEqual([place for place, _ in told[1]], [(13, 0, 5), (37, 0, 5)])
        self.assertEqual(told[0], (169, 25))

    def test_against_a_plain_way(self):
        for sites in samples.small(100) + samples.middling()[3:4]:
            self.assertEqual(largest_empty(sites), slow_cells.largest_empty(sites), sites)

    def test_large(self):
        for sites in samples.large():
            square, rows = largest_empty(sites)
            spots = [slow_cells.as_point(place) for place, _ in rows]
            self.assertEqual(spots, sorted(set(spots)))
            for place, near in rows[:9]:
                self.assertGreaterEqual(where(sites, place), 0)
                self.assertEqual(slow_cells.meeting(sites, place), near)
                self.assertEqual(exact.pair(exact.distance(*slow_cells.as_point(place), near[0])), square)


class Locate(unittest.TestCase):
    def test_each_kind(self):
        self.assertEqual(locate(SQUARE, (2, 0, 1)), ("site", (2, 0)))
        self.assertEqual(locate(SQUARE, (0, 1, 2)), ("edge", ((0, 0), (0, 2))))
        self.assertEqual(locate(SQUARE, (3, 1, 1)), ("outside", None))
        self.assertEqual(locate([(1, 1)], (1, 1, 1)), ("site", (1, 1)))
        self.assertEqual(locate([(1, 1)], (1, 2, 1)), ("outside", None))
        self.assertEqual(locate([(0, 0), (2, 0), (1, 0)], (1, 0, 2)), ("edge", ((0, 0), (1, 0))))
        self.assertEqual(locate([(0, 0), (2, 0), (1, 0)], (3, 0, 1)), ("outside", None))

    def test_hardly_off_an_edge(self):
        n = LONGEST
        told = [locate(SQUARE, p) for p in ((n, 1, n), (1, 0, n), (n, -1, n), (n, n - 1, n))]
        face = [(0, 0), (2, 0), (2, 2), (0, 2)]
        self.assertEqual(told, [("face", face), ("edge", ((0, 0), (2, 0))), ("outside", None), ("face", face)])

    def test_against_a_plain_way(self):
        for number, sites in enumerate(samples.small()):
            for place in some_places(sites, 5, number):
                self.assertEqual(locate(sites, place), slow_cells.locate(sites, place), (sites, place))
