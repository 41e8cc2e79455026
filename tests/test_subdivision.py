"""Points 12 to 14: edges, faces, and papers against an edge."""

import random
import unittest
from itertools import combinations, permutations

from nearcells.errors import InvalidBound, InvalidSites
from nearcells.hulls import border
from nearcells.signs import circle
from nearcells.subdivision import Subdivision, avoided, centres
from tests import exact, samples, slow
from tests.wrong_values import neither, no_sites

FAR = 10 ** 6
SQUARE = [(0, 0), (2, 0), (0, 2), (2, 2)]


class Examples(unittest.TestCase):
    def test_e03(self):
        sub = Subdivision([(2, 2), (0, 0), (2, 0), (0, 2), (5, 1)])
        self.assertEqual(sub.edges(), [((0, 0), (0, 2)), ((0, 0), (2, 0)), ((0, 2), (2, 2)),
                                       ((2, 0), (2, 2)), ((2, 0), (5, 1)), ((2, 2), (5, 1))])
        self.assertEqual(sub.faces(), [[(0, 0), (2, 0), (2, 2), (0, 2)], [(2, 0), (5, 1), (2, 2)]])

    def test_e05(self):
        with self.assertRaises(InvalidSites) as caught:
            Subdivision([(0, 0), (1, 0), (0, 0)])
        self.assertEqual(caught.exception.at, 2)

    def test_square(self):
        sub = Subdivision(SQUARE)
        self.assertEqual(sub.sites(), [(0, 0), (0, 2), (2, 0), (2, 2)])
        self.assertEqual(sub.faces(), [[(0, 0), (2, 0), (2, 2), (0, 2)]])
        self.assertEqual(sub.triangles(), [((0, 0), (2, 0), (2, 2)), ((0, 0), (2, 2), (0, 2))])
        self.assertEqual(avoided(SQUARE, (0, 0), (2, 2)), ((2, 0), (0, 2)))

    def test_e04(self):
        sites = [(0, 0), (2, 0), (0, 2), (3, 3)]
        self.assertIsNone(avoided(sites, (2, 0), (0, 2)))
        self.assertEqual(avoided(sites, (0, 0), (3, 3)), ((2, 0), (0, 2)))


class Parts(unittest.TestCase):
    def test_single_and_rows(self):
        self.assertEqual(Subdivision([(7, 8)]).edges(), [])
        for row in samples.ROWS:
            sub = Subdivision(row)
            self.assertEqual(sub.edges(), list(zip(sorted(row), sorted(row)[1:])))
            self.assertEqual((sub.faces(), sub.triangles()), ([], []))

    def test_against_plain_ways(self):
        for sites in samples.small() + samples.middling():
            with self.subTest(sites=sites):
                sub, pairs, faces = Subdivision(sites), slow.edges(sites), slow.faces(sites)
                self.assertEqual(sub.sites(), sorted(sites))
                self.assertEqual(sub.edges(), pairs)
                self.assertEqual(sub.faces(), faces)
                self.assertEqual(sub.triangles(), slow.fans(faces))
                around = slow.border(sites)
                for site in sites:
                    right = slow.neighbours(sites, pairs, around, site)
                    self.assertEqual(sub.neighbours(site), right)

    def test_all_orders(self):
        for sites in (SQUARE + [(5, 1)], [(0, 0), (1, 0), (2, 0), (1, 1), (7, 0)], samples.RING[:5]):
            right = Subdivision(sites)
            for order in permutations(sites):
                sub = Subdivision(list(order))
                self.assertEqual(sub.edges(), right.edges())
                self.assertEqual((sub.faces(), sub.triangles()), (right.faces(), right.triangles()))

    def test_large(self):
        for sites in samples.large():
            sub = Subdivision(sites)
            faces, edges = sub.faces(), sub.edges()
            self.check_sides(sites, faces, edges)
            for face in faces[::9]:
                point = exact.centre(*face[:3])
                square = exact.distance(*point, face[0])
                on = {s for s in sites if exact.distance(*point, s) == square}
                self.assertEqual(on, set(face))
                self.assertGreaterEqual(min(exact.distance(*point, s) for s in sites), square)

    def check_sides(self, sites, faces, edges):
        """The faces lie side by side on the hull, and their sides are the edges."""
        sides = [side for face in faces for side in zip(face, face[1:] + face[:1])]
        self.assertEqual(len(set(sides)), len(sides))
        if faces:
            self.assertEqual(sorted({tuple(sorted(side)) for side in sides}), edges)
            around = border(sites)
            outer = set(zip(around, around[1:] + around[:1]))
            self.assertEqual({(a, b) for a, b in sides if (b, a) not in sides}, outer)
        self.assertEqual({s for edge in edges for s in edge}, set(sites))

    def test_what_is_told_is_new(self):
        handed = [(0, 0), (2, 0), (0, 2)]
        sub = Subdivision(handed)
        before = [sub.sites(), sub.edges(), sub.faces(), sub.triangles(), sub.neighbours((0, 0))]
        handed.append((9, 9))
        handed[0] = (1, 1)
        for told in (sub.sites(), sub.edges(), sub.faces()[0], sub.faces(), sub.triangles(),
                     sub.neighbours((0, 0))):
            told.clear()
        sub.faces()[0].append((7, 7))
        after = [sub.sites(), sub.edges(), sub.faces(), sub.triangles(), sub.neighbours((0, 0))]
        self.assertEqual(before, after)

    def test_what_is_handed_in_stays(self):
        handed = [(2, 2), (0, 0), (2, 0), (0, 2)]
        Subdivision(handed)
        self.assertEqual(handed, [(2, 2), (0, 0), (2, 0), (0, 2)])


class Equality(unittest.TestCase):
    def test_equal_if_their_sites_are(self):
        one = Subdivision(SQUARE)
        for order in permutations(SQUARE):
            self.assertTrue(one == Subdivision(list(order)))
            self.assertFalse(one != Subdivision(list(order)))

    def test_unlike_sites(self):
        for sites in (SQUARE[:3], SQUARE + [(1, 1)], [(0, 0), (2, 0), (0, 2), (2, 3)], [(0, 0)]):
            self.assertFalse(Subdivision(SQUARE) == Subdivision(sites))
            self.assertTrue(Subdivision(SQUARE) != Subdivision(sites))
        self.assertFalse(Subdivision([(0, 0)]) == Subdivision([(0, 1)]))

    def test_equal_to_nothing_else(self):
        one = Subdivision(SQUARE)
        for other in neither() + [SQUARE, sorted(SQUARE), tuple(sorted(SQUARE)), one.edges(), one.faces()]:
            self.assertIs(one == other, False)
            self.assertIs(other == one, False)
            self.assertIs(one != other, True)


class Neighbours(unittest.TestCase):
    def test_off_the_border_from_the_least(self):
        sub = Subdivision(SQUARE + [(1, 1)])
        self.assertEqual(sub.neighbours((1, 1)), [(0, 0), (2, 0), (2, 2), (0, 2)])

    def test_on_the_border_from_the_next(self):
        sub = Subdivision(SQUARE + [(1, 1)])
        self.assertEqual(sub.neighbours((0, 0)), [(2, 0), (1, 1), (0, 2)])
        self.assertEqual(sub.neighbours((2, 2)), [(0, 2), (1, 1), (2, 0)])
        self.assertEqual(Subdivision(samples.grid(3, 2)).neighbours((1, 0)), [(2, 0), (1, 1), (0, 0)])

    def test_rows_ascending(self):
        sub = Subdivision([(4, 0), (0, 0), (9, 0)])
        told = [sub.neighbours(s) for s in sub.sites()]
        self.assertEqual(told, [[(4, 0)], [(0, 0), (9, 0)], [(4, 0)]])
        self.assertEqual(Subdivision([(1, 1)]).neighbours((1, 1)), [])

    def test_wrong_sites(self):
        sub = Subdivision(SQUARE)
        for wrong in no_sites() + [(1, 1), (0, 1), (FAR, FAR)]:
            with self.assertRaises(InvalidBound) as caught:
                sub.neighbours(wrong)
            self.assertEqual(caught.exception.argument, "site")
        self.assertEqual(sub.neighbours(site=(0, 0)), [(2, 0), (0, 2)])


class FaceCircle(unittest.TestCase):
    def test_is_that_of_any_three_corners(self):
        for sites in samples.small(80) + samples.middling():
            sub = Subdivision(sites)
            for face in sub.faces():
                told = sub.face_circle(face)
                for three in combinations(face, 3):
                    self.assertEqual(told, circle(*three))
                x, y, d = told[0]
                for s in sites:
                    room = exact.distance(exact.Fraction(x, d), exact.Fraction(y, d), s)
                    self.assertEqual(room == exact.Fraction(*told[1]), s in face)
                    self.assertGreaterEqual(room, exact.Fraction(*told[1]))

    def test_example(self):
        self.assertEqual(Subdivision(SQUARE).face_circle(face=[(0, 0), (2, 0), (2, 2), (0, 2)]),
                         ((1, 1, 1), (2, 1)))

    def test_wrong_faces(self):
        face = [(0, 0), (2, 0), (2, 2), (0, 2)]
        wrong = neither() + no_sites() + [
            tuple(face), face[1:] + face[:1], face[::-1], face[:3], face + [(0, 0)], [], [face],
            [(0, 0), (2, 0), (2, 2), (0, False)], [(False, 0)] + face[1:], [[0, 0]] + face[1:],
            face[:3] + [None], [(0, 0), (2, 0), (5, 5)], SQUARE]
        row, sub = Subdivision([(0, 0), (1, 0)]), Subdivision(SQUARE)
        for value in wrong + [[value] * 4 for value in wrong] + [face[:3] + [value] for value in neither()]:
            for held in (sub, row):
                with self.assertRaises(InvalidBound) as caught:
                    held.face_circle(value)
                self.assertEqual(caught.exception.argument, "face")
        with self.assertRaises(InvalidBound):
            row.face_circle(face)


class Centres(unittest.TestCase):
    def test_bounds_on_each_side(self):
        self.assertEqual(centres([(0, 0), (2, 0)], (0, 0), (2, 0)), (None, None))
        self.assertEqual(centres([(0, 0), (2, 0), (1, 1)], (0, 0), (2, 0)), (None, (0, 1)))
        self.assertEqual(centres([(0, 0), (2, 0), (1, 1)], (2, 0), (0, 0)), ((0, 1), None))
        self.assertEqual(centres([(0, 0), (4, 0), (2, 1), (2, -1)], (0, 0), (4, 0)), ((3, 8), (-3, 8)))
        self.assertIsNone(centres([(0, 0), (4, 0), (2, 0)], (0, 0), (4, 0)))
        self.assertEqual(centres([(0, 0), (4, 0), (7, 0)], (0, 0), (4, 0)), (None, None))

    def test_against_a_plain_way(self):
        for sites in samples.small():
            for a, b in permutations(sites[:5], 2):
                right = slow.bounds(sites, a, b)
                if right is not None:
                    right = tuple(None if t is None else exact.pair(t) for t in right)
                self.assertEqual(centres(sites, a, b), right, (sites, a, b))

    def test_edges_are_those_with_room(self):
        for sites in samples.middling():
            edges = Subdivision(sites).edges()
            for a, b in combinations(sorted(sites), 2):
                told = centres(sites, a, b)
                room = told is not None and (None in told or exact.Fraction(*told[0]) < exact.Fraction(*told[1]))
                self.assertEqual(room, (a, b) in edges)


def paper(sites, a, b):
    """What avoided tells, by a look at all sites and pairs."""
    between = [s for s in sites if slow.strictly_between(a, b, s)]
    if between:
        return (min(between),)
    if slow.is_edge(sites, a, b):
        return None
    right = sorted(s for s in sites if slow.turn(a, b, s) < 0)
    left = sorted(s for s in sites if slow.turn(a, b, s) > 0)
    for c in right:
        for d in left:
            found = slow.bounds([a, b, c, d], a, b)
            if found[0] >= found[1]:
                return (c, d)
    raise AssertionError("no paper")


class Avoided(unittest.TestCase):
    def test_a_site_between_is_told_alone(self):
        row = [(x, 0) for x in range(5)] + [(1, 1), (1, -1)]
        self.assertEqual(avoided(row, (4, 0), (1, 0)), ((2, 0),))
        self.assertIsNone(avoided(row[:5], (1, 0), (0, 0)))

    def test_against_a_plain_way(self):
        for sites in samples.small():
            for a, b in permutations(sites[:5], 2):
                self.assertEqual(avoided(sites, a, b), paper(sites, a, b), (sites, a, b))

    def test_all_pairs_of_more_sites(self):
        for sites in samples.middling():
            edges = Subdivision(sites).edges()
            for a, b in combinations(sorted(sites), 2):
                self.assertEqual(avoided(sites, a, b) is None, (a, b) in edges)

    def test_a_few_pairs_of_many_sites(self):
        chance = random.Random(13)
        for sites in samples.large():
            for _ in range(4):
                a, b = chance.sample(sites, 2)
                self.assertEqual(avoided(sites, a, b), paper(sites, a, b))
