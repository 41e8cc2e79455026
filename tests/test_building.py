"""Points 16 to 19: flips, and sites that are put in one by one."""

import random
import unittest
from itertools import combinations, permutations

from nearcells.building import flipped, placed, steps, straightened, volume, wrong_edges
from nearcells.errors import InvalidBound
from nearcells.subdivision import Subdivision, first_wrong, is_triangulation
from tests import samples, slow
from tests.wrong_values import neither, no_sites

KITE = [(0, 0), (4, 0), (2, 1), (2, -1)]
CUT = [((0, 0), (4, 0), (2, 1)), ((0, 0), (2, -1), (4, 0))]


def walks(count=60, seed=16):
    """Sites with a triangulation that comes of some flips, any which can be done."""
    chance = random.Random(seed)
    for sites in samples.small(count) + samples.middling():
        triangles = placed(sites)
        for _ in range(chance.randrange(6)):
            inner = slow.inner_edges(triangles)
            ways = [edge for edge, (c, d) in inner.items() if slow.can_flip(edge, c, d)]
            if ways:
                triangles = slow.flipped(triangles, chance.choice(ways))
        mixed = [chance.sample(three, 3) for three in triangles]
        chance.shuffle(mixed)
        yield sites, [tuple(three) for three in mixed]


class WrongEdges(unittest.TestCase):
    def test_against_a_plain_way(self):
        for sites, triangles in walks():
            told = wrong_edges(sites, triangles)
            self.assertEqual(told, slow.wrong_edges(triangles))
            self.assertEqual(min(told, default=None), first_wrong(sites, triangles))

    def test_none_on_one_circle(self):
        ring = samples.RING
        self.assertEqual(wrong_edges(ring, slow.fans([slow.border(ring)])), [])
        self.assertEqual(wrong_edges([(0, 0), (1, 0)], []), [])

    def test_example(self):
        self.assertEqual(wrong_edges(KITE, CUT), [((0, 0), (4, 0))])


class Flipped(unittest.TestCase):
    def test_against_a_plain_way(self):
        for sites, triangles in walks():
            inner = slow.inner_edges(triangles)
            for a, b in combinations(sorted(sites), 2):
                if (a, b) in inner and slow.can_flip((a, b), *inner[(a, b)]):
                    told = flipped(sites, triangles, (a, b))
                    self.assertEqual(told, slow.flipped(triangles, (a, b)))
                    self.assertTrue(is_triangulation(sites, told))
                else:
                    self.assert_cannot(sites, triangles, (a, b))
                self.assert_cannot(sites, triangles, (b, a))

    def assert_cannot(self, sites, triangles, edge):
        with self.assertRaises(InvalidBound) as caught:
            flipped(sites, triangles, edge)
        self.assertEqual(caught.exception.argument, "edge")

    def test_wrong_edges_can_be_flipped_and_lessen_the_volume(self):
        for sites, triangles in walks():
            for edge in wrong_edges(sites, triangles):
                told = flipped(sites, triangles, edge)
                self.assertLess(volume(sites, told), volume(sites, triangles))

    def test_in_a_row_at_a_corner(self):
        # The four corners make a triangle with a corner on a side, and one that is not convex.
        flat = [(0, 0), (2, 0), (4, 0), (2, 3)]
        self.assert_cannot(flat, [((0, 0), (2, 0), (2, 3)), ((2, 0), (4, 0), (2, 3))], ((2, 0), (2, 3)))
        dent = [(0, 0), (4, 0), (2, 1), (2, 5)]
        cut = [((0, 0), (4, 0), (2, 1)), ((4, 0), (2, 5), (2, 1)), ((0, 0), (2, 1), (2, 5))]
        self.assertTrue(is_triangulation(dent, cut))
        for edge in combinations(sorted(dent), 2):
            self.assert_cannot(dent, cut, edge)

    def test_what_is_no_edge(self):
        wrong = neither() + [((0, 0), (2, 1)), ((4, 0), (0, 0)), [(0, 0), (4, 0)], ((0, 0), (4, 0), (2, 1)),
                             ((0, 0),), ((2, -1), (2, 1)), ((0, 0), (0, 0)), ((False, 0), (4, 0)),
                             ((0, 0), (4, False)), ((0, 0), [4, 0]), ((0, 0), (9, 9))]
        wrong += [((0, 0), value) for value in no_sites()] + [(value, (4, 0)) for value in no_sites()]
        for edge in wrong:
            self.assert_cannot(KITE, CUT, edge)
        self.assert_cannot([(0, 0), (1, 0)], [], ((0, 0), (1, 0)))

    def test_what_is_handed_in_stays(self):
        handed = list(CUT)
        told = flipped(KITE, handed, ((0, 0), (4, 0)))
        self.assertEqual((handed, told), (CUT, [((0, 0), (2, -1), (2, 1)), ((2, -1), (4, 0), (2, 1))]))


class Straightened(unittest.TestCase):
    def test_e203(self):
        told = straightened(KITE, CUT)
        self.assertEqual(told, ([((0, 0), (4, 0))], [((0, 0), (2, -1), (2, 1)), ((2, -1), (4, 0), (2, 1))]))

    def test_against_a_plain_way(self):
        for sites, triangles in walks():
            self.assertEqual(straightened(sites, triangles), slow.straightened(triangles))

    def test_facts(self):
        for sites in samples.large():
            gone, triangles = straightened(sites, placed(sites))
            self.assertEqual(len(set(gone)), len(gone))
            self.assertLessEqual(len(gone), len(sites) * (len(sites) - 1) // 2)
            faces = [set(face) for face in Subdivision(sites).faces()]
            self.assertEqual(sum(len(face) - 2 for face in faces), len(triangles))
            self.assertTrue(all(any(set(three) <= face for face in faces) for three in triangles))

    def test_not_always_from_the_least_corners(self):
        square = [(0, 0), (2, 0), (0, 2), (2, 2)]
        cut = [((0, 0), (2, 0), (0, 2)), ((0, 2), (2, 0), (2, 2))]
        self.assertEqual(straightened(square, cut), ([], cut))

    def test_rows(self):
        for row in samples.ROWS:
            self.assertEqual(straightened(row, []), ([], []))


class Placed(unittest.TestCase):
    def test_against_a_plain_way(self):
        for sites in samples.small() + samples.middling():
            told = placed(sites)
            self.assertEqual(told, slow.placed(sites), sites)
            self.assertTrue(slow.is_triangulation(sites, told))

    def test_large(self):
        for sites in samples.large():
            self.assertTrue(is_triangulation(sites, placed(sites)))

    def test_all_orders(self):
        sites = [(0, 0), (1, 0), (2, 0), (0, 2), (1, 1)]
        for order in permutations(sites):
            self.assertEqual(placed(list(order)), placed(sites))


class Volume(unittest.TestCase):
    def test_by_hand(self):
        # Double areas 4 and 4, heights 0 + 16 + 5 each.
        self.assertEqual(volume(KITE, CUT), 4 * 21 + 4 * 21)
        self.assertEqual(volume([(0, 0), (1, 0)], []), 0)

    def test_against_a_plain_way(self):
        for sites, triangles in walks():
            right = sum(abs(slow.turn(*three)) * sum(x * x + y * y for x, y in three) for three in triangles)
            self.assertEqual(volume(sites, triangles), right)

    def test_least_without_wrong_edges(self):
        for sites, triangles in walks():
            least = volume(sites, Subdivision(sites).triangles())
            self.assertEqual(volume(sites, triangles) == least, wrong_edges(sites, triangles) == [])
            self.assertGreaterEqual(volume(sites, triangles), least)


class Steps(unittest.TestCase):
    def test_e204(self):
        told = steps([(0, 0), (4, 0), (2, 0)])
        self.assertEqual(told, [([], []), ([], [((0, 0), (4, 0))]),
                                ([((0, 0), (4, 0))], [((0, 0), (2, 0)), ((2, 0), (4, 0))])])

    def test_against_a_plain_way(self):
        for order in samples.small() + samples.middling():
            self.assertEqual(steps(order), slow.steps(order), order)

    def test_all_orders(self):
        for sites in ([(0, 0), (2, 0), (1, 0), (1, 1)], [(0, 0), (2, 0), (0, 2), (2, 2), (1, 1)]):
            for order in permutations(sites):
                self.assertEqual(steps(list(order)), slow.steps(list(order)))

    def test_large(self):
        chance = random.Random(17)
        for sites in samples.large():
            order = chance.sample(sites, len(sites))
            joined = set()
            for site, (gone, come) in zip(order, steps(order)):
                self.assertTrue(all(site in edge for edge in come))
                self.assertTrue(set(gone) <= joined and not set(come) & joined)
                joined = joined - set(gone) | set(come)
            self.assertEqual(sorted(joined), Subdivision(sites).edges())

    def test_what_is_handed_in_stays(self):
        handed = [(2, 2), (0, 0), (2, 0)]
        for _, come in steps(handed):
            come.clear()
        self.assertEqual(handed, [(2, 2), (0, 0), (2, 0)])
        self.assertEqual(steps(handed)[1], ([], [((0, 0), (2, 2))]))
