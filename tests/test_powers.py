"""Points 43 to 45: cells with weights."""

import random
import unittest
from fractions import Fraction

from nearcells.cells import vertices
from nearcells.errors import InvalidBound, InvalidSites
from nearcells.hulls import hull
from nearcells.powers import cover, kind, least_power, power, power_edges, power_faces, power_vertices
from nearcells.subdivision import Subdivision
from tests import exact, samples, slow, slow_powers
from tests.test_cells import some_places

MOST = 10 ** 13
BESIDE = [(0, 0, 0), (4, 0, 0), (0, 4, 0), (1, 1, -6)]


def weighted(sets, seed=11):
    """Sets of weighted sites: flat ones, spread ones, touching ones, and far heavy ones."""
    chance = random.Random(seed)
    told = [list(BESIDE), [(0, 0, MOST), (1, 0, -MOST), (0, 1, 0)], [(5, 5, -3)], [(0, 0, 9), (1, 0, -9)]]
    for sites in sets:
        way = chance.randrange(6)
        if way == 0:
            told.append([(x, y, 7) for x, y in sites])
        elif way == 1:
            told.append([(x, y, 7 + chance.randrange(2)) for x, y in sites])
        elif way == 2:
            # On a plane and hardly below or above: many touch.
            told.append([(x, y, x * x + y * y - 3 * x + y - chance.choice((0, 0, 0, 1))) for x, y in sites])
        elif way == 3:
            told.append([(x, y, chance.choice((-MOST, MOST, 0))) for x, y in sites])
        elif way == 4:
            # Folded along a line.
            told.append([(x, y, x * x + y * y - 5 * abs(x) - chance.choice((0, 0, 2))) for x, y in sites])
        else:
            told.append([(x, y, chance.randint(-40, 40)) for x, y in sites])
    return [[site for site in sites if abs(site[2]) <= MOST] or [(0, 0, 0)] for sites in told]


SETS = weighted(samples.small(90, most=6))
LARGER = weighted([sites[:30] for sites in samples.middling() + samples.large()] * 3, seed=12)


class Examples(unittest.TestCase):
    def test_e403(self):
        told = [kind(BESIDE, (1, 1, -6)), cover(BESIDE, (1, 1, -6)), power_edges(BESIDE), power_vertices(BESIDE)]
        self.assertEqual(told, [
            "touching", ((0, 0, 0), (0, 4, 0), (4, 0, 0)),
            [((0, 0), (0, 4)), ((0, 0), (4, 0)), ((0, 4), (4, 0))],
            [((2, 2, 1), (8, 1), [(0, 0, 0), (0, 4, 0), (1, 1, -6), (4, 0, 0)])]])
        self.assertEqual(power_faces(BESIDE), [[(0, 0), (4, 0), (0, 4)]])


class Power(unittest.TestCase):
    def test_by_hand(self):
        self.assertEqual(power((1, 1, 2), (1, 0, 3)), (-5, 2))
        self.assertEqual(power((0, 0, 1), (0, 0, MOST)), (-MOST, 1))
        self.assertEqual(power((3, 4, 1), (0, 0, 25)), (0, 1))

    def test_against_a_plain_way(self):
        for number, sites in enumerate(SETS):
            for place in some_places([site[:2] for site in sites], 3, number):
                x, y = Fraction(place[0], place[2]), Fraction(place[1], place[2])
                for site in sites:
                    self.assertEqual(power(place, site), exact.pair(slow_powers.power(x, y, site)))
                self.assertEqual(least_power(sites, place), slow_powers.near(sites, x, y))

    def test_several_at_one_place(self):
        self.assertEqual(least_power(BESIDE, (2, 2, 1)), sorted(BESIDE))
        self.assertEqual(least_power([(0, 0, 0), (2, 0, 0)], (1, 5, 1)), [(0, 0, 0), (2, 0, 0)])


class Kinds(unittest.TestCase):
    def test_by_hand(self):
        self.assertEqual([kind(BESIDE[:3] + [(1, 1, w)], (1, 1, w)) for w in (-5, -6, -7)],
                         ["seen", "touching", "hidden"])
        row = [(0, 0, 0), (4, 0, 0)]
        self.assertEqual([kind(row + [(1, 0, w)], (1, 0, w)) for w in (-2, -3, -4)], ["seen", "touching", "hidden"])
        # On the border of the spots' hull.
        side = row + [(0, 4, 0)]
        self.assertEqual([kind(side + [(1, 0, w)], (1, 0, w)) for w in (-2, -3, -4)], ["seen", "touching", "hidden"])
        self.assertEqual(kind([(3, 3, -MOST)], (3, 3, -MOST)), "seen")
        self.assertEqual(kind([(3, 3, -MOST), (3, 4, MOST)], (3, 3, -MOST)), "seen")
        self.assertEqual(kind([(0, 0, 0), (9, 0, 0), (1, 0, -MOST), (8, 0, MOST)], (1, 0, -MOST)), "hidden")

    def test_against_a_plain_way(self):
        found = set()
        for sites in SETS:
            for site in sites:
                told = kind(sites, site)
                self.assertEqual(told, slow_powers.kind(sites, site), (sites, site))
                found.add(told)
        self.assertEqual(found, {"seen", "touching", "hidden"})

    def test_corners_are_seen(self):
        for sites in SETS:
            for spot in hull([site[:2] for site in sites]):
                site = [one for one in sites if one[:2] == spot][0]
                self.assertEqual(kind(sites, site), "seen")

    def test_no_item(self):
        for wrong in ((1, 1, -5), (1, 1), None, [1, 1, -6]):
            with self.assertRaises(InvalidBound):
                kind(BESIDE, wrong)


class Parts(unittest.TestCase):
    def test_against_a_plain_way(self):
        for sites in SETS:
            with self.subTest(sites=sites):
                self.assertEqual(power_edges(sites), slow_powers.edges(sites))
                right = slow_powers.vertices(sites)
                faces = [slow_powers.corners(sites, near) for _, _, near in right]
                self.assertEqual(power_faces(sites), sorted(faces))
                self.assertEqual(power_vertices(sites), [(exact.place_of(*p), exact.pair(least), near)
                                                         for p, least, near in right])

    def test_equal_weights(self):
        for sites in samples.small(60) + samples.middling():
            for w in (0, 5, -MOST):
                flat = [(x, y, w) for x, y in sites]
                sub = Subdivision(sites)
                self.assertEqual((power_edges(flat), power_faces(flat)), (sub.edges(), sub.faces()))
                told = [(place, (square[0] + w * square[1], square[1]), [site[:2] for site in near])
                        for place, square, near in power_vertices(flat)]
                self.assertEqual(told, vertices(sites))
                self.assertEqual({kind(flat, site) for site in flat}, {"seen"})

    def test_a_number_that_is_added_to_all(self):
        for sites in LARGER:
            if max(abs(site[2]) for site in sites) < MOST - 9:
                more = [(x, y, w + 9) for x, y, w in sites]
                self.assertEqual(power_faces(more), power_faces(sites))
                self.assertEqual(power_edges(more), power_edges(sites))

    def test_faces_lie_side_by_side(self):
        for sites in LARGER:
            faces = power_faces(sites)
            ways = [side for face in faces for side in zip(face, face[1:] + face[:1])]
            self.assertEqual(len(ways), len(set(ways)))
            if faces:
                self.assertEqual(sorted({tuple(sorted(side)) for side in ways}), power_edges(sites))
                area = sum(slow.turn(face[0], a, b) for face in faces for a, b in zip(face[1:], face[2:]))
                self.assertEqual(area, slow.double_hull([site[:2] for site in sites]))


class Cover(unittest.TestCase):
    def test_against_a_plain_way(self):
        many = 0
        for sites in SETS:
            for site in sites:
                told = cover(sites, site)
                self.assertEqual(told, slow_powers.cover(sites, site), (sites, site))
                self.assertEqual(told is None, kind(sites, site) == "seen")
                many += told is not None
        self.assertGreater(many, 30)

    def test_the_least_paper(self):
        # A pair is less than the triples that begin with it, but not than those before them.
        sites = [(0, 0, 0), (4, 0, 0), (2, 0, -9)]
        self.assertEqual(cover(sites + [(5, 9, 0)], (2, 0, -9)), ((0, 0, 0), (4, 0, 0)))
        self.assertEqual(cover(sites + [(2, 9, 0)], (2, 0, -9)), ((0, 0, 0), (2, 9, 0), (4, 0, 0)))

    def test_seen_at_the_bound(self):
        self.assertIsNone(cover(BESIDE[:3] + [(1, 1, -5)], (1, 1, -5)))
        self.assertEqual(cover([(0, 0, 0), (4, 0, 0), (1, 0, -3)], (1, 0, -3)), ((0, 0, 0), (4, 0, 0)))


class Many(unittest.TestCase):
    def test_thirty_and_thirty_one(self):
        chance = random.Random(3)
        sites = [(x, y, chance.randint(-9, 9)) for x, y in samples.anywhere(31, 10, chance)]
        self.assertEqual(len(least_power(sites[:30], (0, 0, 1))) > 0, True)
        kinds = [kind(sites[:30], site) for site in sites[:30]]
        self.assertEqual(kinds, [slow_powers.kind(sites[:30], site) for site in sites[:30]])
        for ask in (lambda s: kind(s, s[0]), lambda s: least_power(s, (0, 0, 1)), power_edges, power_faces,
                    power_vertices, lambda s: cover(s, s[0])):
            ask(sites[:30])
            with self.assertRaises(InvalidSites) as caught:
                ask(sites)
            self.assertEqual(caught.exception.at, 30)

    def test_weights_at_the_bounds(self):
        for w in (MOST, -MOST):
            self.assertEqual(power_edges([(0, 0, w), (1, 0, -w)]), [((0, 0), (1, 0))])
            for far in (MOST + 1, -MOST - 1):
                with self.assertRaises(InvalidSites):
                    power_edges([(0, 0, w), (1, 0, far)])

    def test_one_spot_twice(self):
        with self.assertRaises(InvalidSites) as caught:
            power_faces([(0, 0, 1), (4, 0, 0), (0, 0, 2)])
        self.assertEqual(caught.exception.at, 2)
