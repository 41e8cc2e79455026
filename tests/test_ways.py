"""Points 39 to 42: all triangulations, flips, and angles."""

import random
import unittest
from itertools import combinations
from math import comb

from nearcells.building import flipped, placed, wrong_edges
from nearcells.errors import InvalidSites, InvalidTriangles, LimitExceeded
from nearcells.hulls import border
from nearcells.subdivision import Subdivision, first_wrong
from nearcells.ways import all_ways, angles, best_way, fewest_flips, flips, sure_edges
from tests import exact, samples, slow, slow_ways

SQUARE = [(0, 0), (2, 0), (0, 2), (2, 2)]
FEW = [sites for sites in samples.small(90, most=6) if len(sites) <= 6]
NINE = [samples.RING[:9], samples.grid(3, 3), [(x, x * x) for x in range(-4, 5)], [(3 * x, x) for x in range(9)],
        samples.anywhere(9, 40, random.Random(4)), [(x, 0) for x in range(5)] + [(x, 3) for x in range(4)],
        samples.anywhere(9, 10 ** 6, random.Random(5)), [(x, 0) for x in range(8)] + [(3, 5)]]


class Examples(unittest.TestCase):
    def test_e401(self):
        one, other = all_ways(SQUARE)
        told = [one, flips(SQUARE, one), fewest_flips(SQUARE, one, other), angles(SQUARE, one)[:2]]
        self.assertEqual(told, [[((0, 0), (2, 0), (0, 2)), ((0, 2), (2, 0), (2, 2))], [((0, 2), (2, 0))],
                                [((0, 2), (2, 0))], [(1, 1), (1, 1)]])

    def test_e402(self):
        told = [len(all_ways([(0, 0), (4, 0), (0, 4), (1, 1)])), sure_edges(SQUARE)]
        sides = [((0, 0), (0, 2)), ((0, 0), (2, 0)), ((0, 2), (2, 2)), ((2, 0), (2, 2))]
        self.assertEqual(told, [1, sides])

    def test_square(self):
        self.assertEqual(all_ways(SQUARE), [[((0, 0), (2, 0), (0, 2)), ((0, 2), (2, 0), (2, 2))],
                                            [((0, 0), (2, 0), (2, 2)), ((0, 0), (2, 2), (0, 2))]])
        self.assertEqual(angles([(0, 0), (4, 0), (1, 3)], [((0, 0), (4, 0), (1, 3))]), [(1, 1), (1, 2), (1, 3)])


class AllWays(unittest.TestCase):
    def test_by_filling_what_is_open(self):
        for sites in FEW:
            self.assertEqual(all_ways(sites), slow_ways.all_ways(sites), sites)

    def test_rows(self):
        for sites in samples.ROWS + [[(4, 4)], [(0, 0), (9, 1)]]:
            self.assertEqual(all_ways(sites), [[]])

    def test_two_parallel_rows(self):
        for m in range(1, 9):
            for k in range(1, 10 - m):
                if m + k > 2:
                    sites = [(x, 0) for x in range(m)] + [(3 * x - 5, 2) for x in range(k)]
                    self.assertEqual(len(all_ways(sites)), comb(m + k - 2, m - 1))

    def test_convex_polygons(self):
        # The numbers of Catalan.
        for many, right in ((3, 1), (4, 2), (5, 5), (6, 14), (7, 42), (8, 132), (9, 429)):
            self.assertEqual(len(all_ways([(x, x * x) for x in range(many)])), right)

    def test_nine_and_ten(self):
        for sites in NINE:
            ways = all_ways(sites)
            self.assertEqual(ways, sorted(ways))
            for way in ways[::25]:
                self.assertTrue(slow.is_triangulation(sites, way))
                self.assertEqual(way, sorted(slow.told(three) for three in way))
            self.assertEqual(len({str(way) for way in ways}), len(ways))
            for ask in (all_ways, best_way):
                with self.assertRaises(LimitExceeded) as caught:
                    ask(sites + [(77, 78)])
                self.assertEqual(caught.exception.limit, 9)

    def test_numbers_of_triangles_and_edges(self):
        for sites in FEW + NINE:
            if not slow.in_row(sites):
                many = {(len(way), len(slow_ways.edges_of(sites, way))) for way in all_ways(sites)[::7]}
                right = 2 * len(sites) - 2 - len(border(sites))
                self.assertEqual({one for one, _ in many}, {right})
                self.assertEqual(len(many), 1)

    def test_what_is_told_is_new(self):
        told = all_ways(SQUARE)
        told[0].clear()
        self.assertEqual([len(way) for way in all_ways(SQUARE)], [2, 2])


class SureEdges(unittest.TestCase):
    def test_edges_that_all_have(self):
        for sites in FEW:
            ways = slow_ways.all_ways(sites)
            right = set.intersection(*[set(slow_ways.edges_of(sites, way)) for way in ways])
            self.assertEqual(sure_edges(sites), sorted(right), sites)

    def test_no_stretch_crosses(self):
        for sites in samples.middling():
            pairs = list(combinations(sorted(sites), 2))
            right = [(a, b) for a, b in pairs
                     if not any(slow.strictly_between(a, b, s) for s in sites)
                     and not any(slow_ways.crossing(a, b, c, d) for c, d in pairs)]
            told = sure_edges(sites)
            self.assertEqual(told, [pair for pair in pairs if pair in told])
            if not slow.in_row(sites):
                self.assertEqual(told, right)

    def test_forty_and_forty_one(self):
        self.assertEqual(len(sure_edges([(x, 7) for x in range(40)])), 39)
        self.assertEqual(len(sure_edges([(x, x * x) for x in range(40)])), 40)
        self.assertEqual(len(sure_edges(samples.grid(5, 8))), 22)
        for sites in (samples.grid(1, 41), samples.anywhere(41, 99, random.Random(1))):
            with self.assertRaises(LimitExceeded) as caught:
                sure_edges(sites)
            self.assertEqual(caught.exception.limit, 40)


class Flips(unittest.TestCase):
    def test_against_a_plain_way(self):
        for sites in FEW + NINE:
            for way in all_ways(sites)[::11]:
                self.assertEqual(flips(sites, way), slow_ways.flips(way))
                self.assertTrue(set(wrong_edges(sites, way)) <= set(flips(sites, way)))

    def test_many_sites(self):
        for sites in samples.large()[:3]:
            way = placed(sites)
            self.assertEqual(flips(sites, way), slow_ways.flips(way))

    def test_flips_lead_to_all(self):
        for sites in FEW[::3]:
            ways = all_ways(sites)
            self.assertEqual(sorted(map(list, slow_ways.distances(ways[0]))), ways)


def shortest(sites, one, other):
    """The least list of fewest edges, by going through all triangulations."""
    steps, told = slow_ways.distances(other), []
    while one != other:
        edge, one = min((edge, slow.flipped(one, edge)) for edge in flips(sites, one)
                        if steps[tuple(slow.flipped(one, edge))] < steps[tuple(one)])
        told.append(edge)
    return told


class FewestFlips(unittest.TestCase):
    def test_by_going_through_all(self):
        chance = random.Random(6)
        for sites in FEW[::2] + [samples.RING[:7]]:
            ways = all_ways(sites)
            for _ in range(3):
                one, other = chance.choice(ways), chance.choice(ways)
                told = fewest_flips(sites, one, other)
                self.assertEqual(told, shortest(sites, one, other))
                unlike = set(slow_ways.edges_of(sites, one)) - set(slow_ways.edges_of(sites, other))
                self.assertGreaterEqual(len(told), len(unlike))
                self.assertEqual(len(fewest_flips(sites, other, one)), len(told))

    def test_the_flips_lead_there(self):
        chance = random.Random(7)
        for sites in NINE:
            ways = all_ways(sites)
            way, other = chance.choice(ways), chance.choice(ways)
            for edge in fewest_flips(sites, way, other):
                way = flipped(sites, way, edge)
            self.assertEqual(way, other)
            self.assertEqual(fewest_flips(sites, way, other[::-1]), [])

    def test_errors_in_their_order(self):
        ten = samples.RING[:9] + [(0, 0)]
        way, few = placed(ten), samples.RING[:4]
        for args, right in (((ten, way, way), (LimitExceeded, 9)), ((ten, way[:-1], None), (InvalidTriangles, len(way) - 1)),
                            ((ten, way, None), (InvalidTriangles, -1)), ((few, placed(few), [None]), (InvalidTriangles, 0)),
                            ((few, None, [None]), (InvalidTriangles, -1)), ((None, None, None), (InvalidSites, -1))):
            with self.assertRaises(right[0]) as caught:
                fewest_flips(*args)
            self.assertEqual(list(vars(caught.exception).values()), [right[1]])


class Angles(unittest.TestCase):
    def test_against_a_plain_way(self):
        for sites in FEW + NINE + samples.middling():
            way = placed(sites)
            self.assertEqual(angles(sites, way), [exact.pair(one) for one in slow_ways.cotangents(way)])

    def test_many_sites(self):
        for sites in samples.large()[:4]:
            told = [exact.Fraction(*one) for one in angles(sites, Subdivision(sites).triangles())]
            self.assertEqual(told, sorted(told, reverse=True))
            self.assertEqual(len(told), 3 * len(Subdivision(sites).triangles()))

    def test_corners_in_any_order(self):
        way = [((2, 0), (0, 0), (2, 2)), ((0, 2), (2, 2), (0, 0))]
        self.assertEqual(angles(SQUARE, way), [(1, 1), (1, 1), (1, 1), (1, 1), (0, 1), (0, 1)])


class BestWay(unittest.TestCase):
    def test_by_a_look_at_all(self):
        for sites in FEW + NINE[:3]:
            ways = all_ways(sites)
            lists = [slow_ways.cotangents(way) for way in ways]
            told = best_way(sites)
            self.assertEqual(told, ways[lists.index(min(lists))], sites)
            self.assertIsNone(first_wrong(sites, told))

    def test_the_first_cotangents(self):
        for sites in NINE:
            ways = [way for way in all_ways(sites) if way]
            if ways:
                least = angles(sites, best_way(sites))[0]
                firsts = {angles(sites, way)[0] for way in ways if first_wrong(sites, way) is None}
                self.assertEqual(firsts, {least})
                self.assertTrue(all(exact.Fraction(*angles(sites, way)[0]) >= exact.Fraction(*least) for way in ways))

    def test_rows(self):
        for sites in samples.ROWS + [[(1, 1)]]:
            self.assertEqual((best_way(sites), angles(sites, [])), ([], []))
