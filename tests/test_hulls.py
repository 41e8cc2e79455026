"""Points 9 to 11: hulls, layers, and what is seen from where."""

import random
import unittest
from fractions import Fraction
from itertools import permutations

from nearcells.hulls import (border, double_hull, extreme, hull, layer_of, layers, seen_sides,
                             where)
from tests import exact, samples, slow

FAR = 10 ** 6
LONGEST = 10 ** 30 - 1


class Examples(unittest.TestCase):
    def test_e201(self):
        s = [(0, 0), (1, 0), (2, 0), (0, 2), (1, 1)]
        self.assertEqual(hull(s), [(0, 0), (2, 0), (0, 2)])
        self.assertEqual(border(s), [(0, 0), (1, 0), (2, 0), (1, 1), (0, 2)])
        self.assertEqual(double_hull(s), 4)

    def test_e202(self):
        s = [(0, 0), (4, 0), (0, 4)]
        self.assertEqual(seen_sides(s, (3, 3)), [((4, 0), (0, 4))])
        self.assertEqual([where(s, (1, 1, 1)), where(s, (2, 2, 1))], [1, 0])
        self.assertEqual(extreme(s, (1, 1)), [(0, 4), (4, 0)])


class Hulls(unittest.TestCase):
    def test_a_single_site(self):
        self.assertEqual((hull([(3, 4)]), border([(3, 4)]), double_hull([(3, 4)])), ([(3, 4)], [(3, 4)], 0))

    def test_two_sites(self):
        self.assertEqual((hull([(3, 4), (3, 1)]), border([(3, 4), (3, 1)])), ([(3, 1), (3, 4)],) * 2)

    def test_rows(self):
        for row in samples.ROWS:
            self.assertEqual(hull(row), [min(row), max(row)])
            self.assertEqual(border(row), sorted(row))
            self.assertEqual(double_hull(row), 0)

    def test_upright_sides_on_both_ends(self):
        told = border(samples.grid(3, 3))
        self.assertEqual(told, [(0, 0), (1, 0), (2, 0), (2, 1), (2, 2), (1, 2), (0, 2), (0, 1)])
        self.assertEqual(hull(samples.grid(3, 3)), [(0, 0), (2, 0), (2, 2), (0, 2)])

    def test_against_a_plain_way(self):
        for sites in samples.small() + samples.middling():
            with self.subTest(sites=sites):
                self.assertEqual(hull(sites), slow.hull(sites))
                self.assertEqual(border(sites), slow.border(sites))
                self.assertEqual(double_hull(sites), slow.double_hull(sites))

    def test_large(self):
        for sites in samples.large():
            around, corners = border(sites), hull(sites)
            self.assertEqual(corners, [s for s in around if s in corners])
            self.assertEqual(around[0], min(sites))
            if double_hull(sites) > 0:
                sides = list(zip(corners, corners[1:] + corners[:1]))
                for a, b in sides:
                    least = min(slow.turn(a, b, s) for s in sites)
                    self.assertEqual(least, 0)
                    on = sorted((s for s in sites if slow.turn(a, b, s) == 0), reverse=a > b)
                    at = around.index(a)
                    self.assertEqual(on[:-1], around[at:at + len(on) - 1])

    def test_all_orders(self):
        sites = [(0, 0), (1, 0), (2, 0), (0, 2), (1, 1)]
        for order in permutations(sites):
            self.assertEqual((hull(list(order)), border(list(order))), (hull(sites), border(sites)))

    def test_the_area_is_an_integer_far_away(self):
        told = double_hull([(-FAR, -FAR), (FAR, -FAR), (-FAR, FAR), (FAR, FAR)])
        self.assertEqual((told, type(told)), (8 * FAR * FAR, int))


class Layers(unittest.TestCase):
    def test_squares_within_squares(self):
        squares = [[(-k, -k), (k, -k), (k, k), (-k, k)] for k in (3, 2, 1)]
        sites = [site for square in squares for site in square]
        self.assertEqual(layers(sites[::-1]), squares)
        self.assertEqual([layer_of(sites, square[1]) for square in squares], [0, 1, 2])

    def test_what_is_left_may_be_a_row(self):
        sites = samples.grid(5, 3)
        self.assertEqual(layers(sites)[1:], [[(1, 1), (2, 1), (3, 1)]])
        self.assertEqual(layers([(0, 0), (1, 0)]), [[(0, 0), (1, 0)]])

    def test_against_a_plain_way(self):
        for sites in samples.small() + samples.middling():
            told = layers(sites)
            self.assertEqual(told, slow.layers(sites), sites)
            for number, layer in enumerate(told):
                for site in layer:
                    self.assertEqual(layer_of(sites, site), number)

    def test_facts(self):
        for sites in samples.small(60) + samples.large():
            told = layers(sites)
            self.assertEqual(sorted(site for layer in told for site in layer), sorted(sites))
            for one, other in zip(told, told[1:]):
                self.assertTrue(all(where(one, (x, y, 1)) >= 0 for x, y in other))


class Where(unittest.TestCase):
    def test_a_single_site_and_rows(self):
        self.assertEqual([where([(3, 4)], p) for p in ((3, 4, 1), (7, 8, 2), (-3, 4, 1))], [0, -1, -1])
        row = [(4, 2), (0, 0)]
        told = [where(row, p) for p in ((0, 0, 1), (4, 2, 1), (2, 1, 2), (6, 3, 1), (-2, -1, 3), (1, 1, 1))]
        self.assertEqual(told, [0, 0, 0, -1, -1, -1])
        upright = [(1, -1), (1, 3)]
        self.assertEqual([where(upright, p) for p in ((1, 3, 1), (2, 5, 2), (1, 4, 1))], [0, 0, -1])

    def test_a_hair_off_an_edge(self):
        s = [(0, 0), (4, 0), (0, 4)]
        n = LONGEST
        self.assertEqual([where(s, (n, 1, n)), where(s, (n, 0, n - 1)), where(s, (n, -1, n))], [1, 0, -1])
        row = [(0, 0), (1, 0)]
        self.assertEqual([where(row, (1, 0, n)), where(row, (-1, 0, n)), where(row, (1, 1, n))], [0, -1, -1])
        self.assertEqual([where(row, (n - 1, 0, n)), where(row, (n, 0, n - 1))], [0, -1])

    def test_against_a_plain_way(self):
        chance = random.Random(11)
        for sites in samples.small():
            for _ in range(12):
                over = chance.choice((1, 2, 3, 6))
                a, b, c = (chance.choice(sites) for _ in range(3))
                x, y = (Fraction(a[k] + b[k], 2) + Fraction(c[k] - a[k], over) for k in (0, 1))
                told = where(sites, exact.place_of(x, y))
                self.assertEqual(told, slow.where(sites, x, y), (sites, x, y))


class SeenSides(unittest.TestCase):
    def test_two_sides_around_the_first_site(self):
        s = [(0, 0), (4, 0), (4, 4), (0, 4)]
        self.assertEqual(seen_sides(s, (-1, -1)), [((0, 4), (0, 0)), ((0, 0), (4, 0))])
        self.assertEqual(seen_sides(s, (9, 2)), [((4, 0), (4, 4))])

    def test_sides_with_sites_on_them(self):
        s = samples.grid(3, 2)
        self.assertEqual(seen_sides(s, (1, -5)), [((0, 0), (1, 0)), ((1, 0), (2, 0))])

    def test_none_from_within_or_from_the_border(self):
        for site in ((1, 1), (0, 0), (2, 0), (4, 0), (1, 3)):
            self.assertEqual(seen_sides([(0, 0), (4, 0), (0, 4)], site), [])
        self.assertEqual(seen_sides([(0, 0), (4, 0), (0, 4)], (9, 0)), [((4, 0), (0, 4))])

    def test_rows_from_both_sides(self):
        row = [(0, 0), (2, 0), (1, 0)]
        self.assertEqual(seen_sides(row, (1, -1)), [((0, 0), (1, 0)), ((1, 0), (2, 0))])
        self.assertEqual(seen_sides(row, (9, 1)), [((2, 0), (1, 0)), ((1, 0), (0, 0))])
        for site in ((3, 0), (-1, 0), (1, 0)):
            self.assertEqual(seen_sides(row, site), [])
        self.assertEqual(seen_sides([(1, 1)], (2, 2)), [])
        self.assertEqual(seen_sides([(1, 1), (2, 2)], (2, 1)), [((1, 1), (2, 2))])

    def test_against_a_plain_way(self):
        chance = random.Random(12)
        for sites in samples.small():
            for _ in range(8):
                reach = chance.choice((3, 9, FAR))
                site = (chance.randint(-reach, reach), chance.randint(-reach, reach))
                told = seen_sides(sites, site)
                self.assertEqual(told, slow.seen_sides(sites, site), (sites, site))
                self.assertTrue(all(b == c for (_, b), (c, _) in zip(told, told[1:])))


class Extreme(unittest.TestCase):
    def test_single_and_several(self):
        s = samples.grid(3, 3)
        self.assertEqual(extreme(s, (1, 0)), [(2, 0), (2, 1), (2, 2)])
        self.assertEqual(extreme(s, (0, -7)), [(0, 0), (1, 0), (2, 0)])
        self.assertEqual(extreme(s, (-1, 5)), [(0, 2)])
        self.assertEqual(extreme([(3, 4)], (-1, 5)), [(3, 4)])

    def test_directions_of_thirty_digits(self):
        s = [(0, 0), (1, 1), (0, 1)]
        self.assertEqual(extreme(s, (-LONGEST, LONGEST - 1)), [(0, 1)])
        self.assertEqual(extreme(s, (LONGEST, -LONGEST)), [(0, 0), (1, 1)])
        self.assertEqual(extreme(s, (LONGEST, 1 - LONGEST)), [(1, 1)])

    def test_corners_are_alone_in_some_direction(self):
        for sites in samples.small(80):
            alone = set()
            for (a, b), (c, d) in permutations(list(permutations(sites, 2))[:40], 2):
                for u, v in ((b[1] - a[1], a[0] - b[0]), (a[0] + c[0] - b[0] - d[0], a[1] + c[1] - b[1] - d[1])):
                    if (u, v) != (0, 0):
                        told = extreme(sites, (u, v))
                        best = max(u * x + v * y for x, y in sites)
                        self.assertEqual(told, sorted(s for s in sites if u * s[0] + v * s[1] == best))
                        alone |= set(told) if len(told) == 1 else set()
            self.assertLessEqual(alone, set(hull(sites)))
            self.assertEqual(alone_at_corners(sites), set(hull(sites)))


def alone_at_corners(sites):
    """The sites that are alone in the direction between those of the sides beside them."""
    corners = hull(sites)
    found = set()
    for a, b, c in zip(corners, corners[1:] + corners[:1], corners[2:] + corners[:2]):
        u, v = (c[1] - a[1], a[0] - c[0]) if len(corners) > 2 else (b[0] - a[0], b[1] - a[1])
        told = extreme(sites, (u, v)) if (u, v) != (0, 0) else sites
        found |= set(told) if len(told) == 1 else set()
    return found
