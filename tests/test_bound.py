"""Points 48 to 51: edges that are told."""

import random
import unittest
from fractions import Fraction
from itertools import combinations, permutations

from nearcells.bound import (bound_edges, bound_faces, bound_triangles, bound_wrong, crossed, sees,
                             seen_from)
from nearcells.building import placed, wrong_edges
from nearcells.errors import InvalidBound, InvalidSites, InvalidTriangles, LimitExceeded
from nearcells.subdivision import Subdivision
from nearcells.ways import all_ways, angles
from tests import samples, slow, slow_ways

SQUARE = [(0, 0), (2, 0), (0, 2), (2, 2)]
FACE = [(0, 0), (2, 0), (2, 2), (0, 2)]
FEW = [sites for sites in samples.small(90, most=6) if len(sites) <= 6]


def some_told(sites, chance, many):
    """Told edges as the sites allow them, some of them turned about or twice."""
    pairs = [pair for pair in combinations(sites, 2)
             if not any(slow.strictly_between(*pair, s) for s in sites)]
    chance.shuffle(pairs)
    told = []
    for pair in pairs[:many]:
        if not any(slow_ways.crossing(*pair, *other) for other in told):
            told.append(pair[::-1] if chance.randrange(2) else pair)
    return told + told[:chance.randrange(2)]


def cases(sets, seed=9):
    chance = random.Random(seed)
    return [(sites, some_told(sites, chance, chance.choice((0, 1, 2, 5, 9)))) for sites in sets]


def ascending(told):
    return {tuple(sorted(edge)) for edge in told}


class Examples(unittest.TestCase):
    def test_e405(self):
        square, told = [(0, 0), (2, 0), (0, 2), (3, 3)], [((0, 0), (3, 3))]
        wrong = bound_wrong(square, [], [((0, 0), (2, 0), (3, 3)), ((0, 0), (3, 3), (0, 2))])
        self.assertEqual([bound_faces(square, told), sees(square, told, (2, 0), (0, 2)), wrong],
                         [[[(0, 0), (2, 0), (3, 3)], [(0, 0), (3, 3), (0, 2)]], False, ((0, 0), (3, 3))])

    def test_square(self):
        told = [((0, 2), (2, 0))]
        self.assertEqual(bound_faces(SQUARE, told), [[(0, 0), (2, 0), (0, 2)], [(0, 2), (2, 0), (2, 2)]])
        self.assertEqual(bound_triangles(SQUARE, told), [((0, 0), (2, 0), (0, 2)), ((0, 2), (2, 0), (2, 2))])
        self.assertEqual(bound_edges(SQUARE, told), sorted(Subdivision(SQUARE).edges() + told))


class Sees(unittest.TestCase):
    def test_against_a_plain_way(self):
        for sites, told in cases(FEW + samples.middling()[:4]):
            for a, b in permutations(sites[:6], 2):
                right = not any(slow.strictly_between(a, b, s) for s in sites)
                right = right and not any(slow_ways.crossing(a, b, *edge) for edge in told)
                self.assertIs(sees(sites, told, a, b), right)
            for a in sites:
                self.assertEqual(seen_from(sites, told, a), [b for b in sorted(sites) if b != a and sees(sites, told, a, b)])

    def test_ends_see_each_other(self):
        for sites, told in cases(FEW):
            self.assertTrue(all(sees(sites, told, a, b) and sees(sites, told, b, a) for a, b in told))

    def test_ways_that_touch_an_end(self):
        sites = [(0, 0), (4, 0), (2, 2), (2, 5), (2, -1)]
        self.assertIs(sees(sites, [((2, 2), (2, 5))], (0, 0), (4, 0)), True)
        self.assertIs(sees(sites, [((2, -1), (2, 2))], (0, 0), (4, 0)), False)
        # The stretch ends where the told edge has its end.
        self.assertIs(sees(sites, [((2, -1), (2, 2))], (2, 2), (4, 0)), True)
        self.assertIs(sees(sites, [], (2, -1), (2, 5)), False)


class Told(unittest.TestCase):
    def test_twice_and_turned_about(self):
        told = [((0, 2), (2, 0)), ((2, 0), (0, 2)), ((0, 2), (2, 0))]
        self.assertEqual(bound_faces(SQUARE, told), bound_faces(SQUARE, told[:1]))
        self.assertEqual(len(bound_edges(SQUARE, told * 66)), 5)

    def test_two_hundred_and_one_more(self):
        told = [((0, 0), (2, 0))] * 200
        self.assertEqual(bound_faces(SQUARE, told), [FACE])
        for ask in (bound_faces, bound_edges, bound_triangles):
            self.assert_wrong(ask, SQUARE, told + told[:1])

    def assert_wrong(self, ask, sites, told):
        with self.assertRaises(InvalidBound) as caught:
            ask(sites, told)
        self.assertEqual(caught.exception.argument, "told")

    def test_what_crosses_and_what_touches(self):
        row = [(0, 0), (1, 0), (2, 0), (3, 0), (1, 5), (2, 5), (1, -5)]
        for told in ([((0, 0), (2, 0))], [((0, 0), (3, 0)), ((1, 0), (2, 0))], [((1, 5), (1, -5))],
                     [((1, 0), (2, 5)), ((2, 0), (1, 5))]):
            self.assert_wrong(bound_faces, row, told)
        meet = [((0, 0), (1, 0)), ((1, 0), (2, 0)), ((1, 0), (1, 5)), ((1, 0), (1, -5))]
        self.assertTrue({tuple(sorted(edge)) for edge in meet} <= set(bound_edges(row, meet)))

    def test_faults_against_a_plain_way(self):
        chance = random.Random(4)
        for sites in FEW:
            pairs = list(combinations(sites, 2))
            for _ in range(4):
                told = [chance.choice(pairs) for _ in range(chance.randrange(1, 4))] if pairs else []
                right = not any(slow.strictly_between(*edge, s) for edge in told for s in sites)
                right = right and not any(slow_ways.crossing(*p, *q) for p, q in combinations(told, 2))
                if right:
                    bound_faces(sites, told)
                else:
                    self.assert_wrong(bound_faces, sites, told)


class Faces(unittest.TestCase):
    def test_against_all_triangulations(self):
        for sites, told in cases(FEW):
            with self.subTest(sites=sites, told=told):
                ways = slow_ways.right_ways(sites, ascending(told))
                self.assertGreater(len(ways), 0)
                faces = bound_faces(sites, told)
                for way in ways:
                    self.assertEqual(slow_ways.merged(way, ascending(told)), faces)
                self.assertEqual(bound_triangles(sites, told), slow.fans(faces))
                self.assertIn(bound_triangles(sites, told), ways)
                sides = {tuple(sorted(side)) for face in faces for side in slow_ways.sides(face)}
                right = sorted(sides) if not slow.in_row(sites) else slow_ways.edges_of(sites, [])
                self.assertEqual(bound_edges(sites, told), right)

    def test_without_told_edges_and_with_those_of_the_subdivision(self):
        for sites in samples.small(60) + samples.middling():
            sub = Subdivision(sites)
            for told in ([], sub.edges(), sub.edges()[::2]):
                self.assertEqual(bound_faces(sites, told), sub.faces())
                self.assertEqual(bound_edges(sites, told), sub.edges())
                self.assertEqual(bound_triangles(sites, told), sub.triangles())

    def test_more_sites(self):
        chance = random.Random(3)
        sets = samples.middling() + [samples.anywhere(40, 30, chance), samples.anywhere(40, 10 ** 6, chance),
                                     samples.grid(8, 5), [(x, x * x) for x in range(-20, 20)]]
        for sites, told in cases(sets * 2, seed=4):
            way = bound_triangles(sites, told)
            if not slow.in_row(sites):
                self.assertTrue(slow_ways.is_right(way, ascending(told)))
                self.assertTrue(ascending(told) <= set(bound_edges(sites, told)))
                self.assertIsNone(bound_wrong(sites, told, way))

    def test_no_greater_least_angle(self):
        for sites, told in cases(FEW[::2], seed=5):
            if not slow.in_row(sites):
                least = angles(sites, bound_triangles(sites, told))[0]
                for way in all_ways(sites):
                    if ascending(told) <= set(slow_ways.edges_of(sites, way)):
                        self.assertGreaterEqual(Fraction(*angles(sites, way)[0]), Fraction(*least))

    def test_rows(self):
        for sites in samples.ROWS + [[(5, 5)]]:
            row = sorted(sites)
            told = list(zip(row, row[1:]))
            self.assertEqual((bound_faces(sites, told), bound_edges(sites, told), bound_triangles(sites, told)),
                             ([], told, []))
            self.assertIsNone(bound_wrong(sites, told, []))


class BoundWrong(unittest.TestCase):
    def test_against_a_plain_way(self):
        for sites, told in cases(FEW, seed=6):
            for way in all_ways(sites)[::5]:
                lacks = not slow.in_row(sites) and not ascending(told) <= set(slow_ways.edges_of(sites, way))
                if lacks:
                    with self.assertRaises(InvalidTriangles) as caught:
                        bound_wrong(sites, told, way)
                    self.assertEqual(caught.exception.at, len(way))
                else:
                    wrong = [edge for edge in slow.wrong_edges(way) if edge not in ascending(told)]
                    self.assertEqual(bound_wrong(sites, told, way), min(wrong, default=None))

    def test_told_wrong_edges_make_it_right(self):
        for sites in FEW:
            for way in all_ways(sites)[::7]:
                wrong = wrong_edges(sites, way)
                self.assertIsNone(bound_wrong(sites, wrong, way))
                for edge in wrong:
                    rest = [other for other in wrong if other != edge]
                    self.assertEqual(bound_wrong(sites, rest, way), edge)


class Crossed(unittest.TestCase):
    def test_against_a_plain_way(self):
        for sites in FEW + samples.middling()[:5]:
            way = placed(sites)
            for a, b in permutations(sites[:6], 2):
                found = []
                for c, d in slow_ways.edges_of(sites, way):
                    if slow_ways.crossing(a, b, c, d):
                        far, near = slow.turn(c, d, a), slow.turn(c, d, b)
                        found.append((Fraction(far, far - near), (c, d)))
                self.assertEqual(crossed(sites, way, a, b), [edge for _, edge in sorted(found)])
                has = tuple(sorted((a, b))) in slow_ways.edges_of(sites, way)
                free = not any(slow.strictly_between(a, b, s) for s in sites)
                if not slow.in_row(sites):
                    self.assertEqual(has, free and not found)

    def test_no_edge_crosses_a_told_one(self):
        for sites, told in cases(samples.middling(), seed=8):
            way = bound_triangles(sites, told)
            self.assertTrue(all(crossed(sites, way, a, b) == [] for a, b in told))

    def test_backwards(self):
        for sites in (samples.RING, samples.grid(6, 6), samples.anywhere(40, 10 ** 6, random.Random(1))):
            way = placed(sites)
            a, b = min(sites), max(sites)
            self.assertEqual(crossed(sites, way, a, b), crossed(sites, way, b, a)[::-1])


class Limits(unittest.TestCase):
    def test_forty_and_forty_one(self):
        sites = samples.anywhere(41, 50, random.Random(1))
        few = sites[:40]
        a, b = sites[:2]
        way = placed(sites)
        asks = [(lambda s, w: sees(s, [], a, b)), (lambda s, w: seen_from(s, [], a)), (lambda s, w: bound_faces(s, [])),
                (lambda s, w: bound_edges(s, [])), (lambda s, w: bound_triangles(s, [])),
                (lambda s, w: bound_wrong(s, [], w)), (lambda s, w: crossed(s, w, a, b))]
        for ask in asks:
            ask(few, placed(few))
            with self.assertRaises(LimitExceeded) as caught:
                ask(sites, way)
            self.assertEqual(caught.exception.limit, 40)

    def test_behind_the_errors_of_all_arguments(self):
        sites = samples.anywhere(41, 50, random.Random(1))
        a, b, way = sites[0], sites[1], placed(sites)
        calls = [(lambda: sees(sites, [], a, a), "b"), (lambda: sees(sites, [], None, a), "a"),
                 (lambda: sees(sites, [(a, a)], None, a), "told"), (lambda: seen_from(sites, [], (51, 0)), "site"),
                 (lambda: bound_faces(sites, [(a, (51, 0))]), "told"), (lambda: crossed(sites, way, a, a), "b"),
                 (lambda: crossed(sites, way, (51, 0), a), "a"), (lambda: bound_wrong(sites, None, None), "told")]
        for call, name in calls:
            with self.assertRaises(InvalidBound) as caught:
                call()
            self.assertEqual(caught.exception.argument, name)
        for call, at in ((lambda: bound_wrong(sites, [], way[1:]), len(way) - 1), (lambda: crossed(sites, [], a, a), 0)):
            with self.assertRaises(InvalidTriangles) as caught:
                call()
            self.assertEqual(caught.exception.at, at)
        with self.assertRaises(InvalidSites):
            bound_wrong(None, None, None)

    def test_many_told_edges_of_many_sites(self):
        # Two hundred sites are looked at as far as their told edges go.
        sites = samples.large()[0]
        told = Subdivision(sites).edges()[:200]
        with self.assertRaises(LimitExceeded):
            bound_faces(sites, told)
        with self.assertRaises(InvalidBound):
            bound_faces(sites, told[:199] + [(min(sites), max(sites))])
