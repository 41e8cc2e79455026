"""Points 46 and 47: weights of triangulations, and papers against them."""

import random
import unittest

from nearcells.building import placed
from nearcells.errors import InvalidSites, InvalidTriangles, LimitExceeded
from nearcells.powers import kind, power_faces
from nearcells.regular import is_paper, is_weights, regular
from nearcells.subdivision import Subdivision
from nearcells.ways import all_ways
from tests import samples, slow, slow_ways
from tests.wrong_values import neither

SITES = [(0, 0), (4, 0), (0, 4), (1, 1), (2, 1), (1, 2)]
WAY = [((0, 0), (4, 0), (2, 1)), ((0, 0), (2, 1), (1, 1)), ((0, 0), (1, 1), (0, 4)), ((0, 4), (1, 1), (1, 2)),
       ((0, 4), (1, 2), (4, 0)), ((4, 0), (1, 2), (2, 1)), ((1, 1), (2, 1), (1, 2))]
PAPER = [(((0, 0), (2, 1)), 1), (((0, 4), (1, 1)), 1), (((1, 2), (4, 0)), 1)]
FEW = [sites for sites in samples.small(70, most=7) if len(sites) <= 7]
FAR = 10 ** 6


def turned(many, seed=5):
    """Two triangles turned within one another, moved, enlarged, and with more sites."""
    chance = random.Random(seed)
    told = [list(SITES)]
    for _ in range(many):
        k, x, y = chance.choice((1, 3, 50000)), chance.randint(-9, 9), chance.randint(-9, 9)
        u, v = chance.choice(((0, 0), (1, 0), (0, 1)))
        sites = [(k * (2 * a + (u if a == 1 else 0)) + x, k * (2 * b + (v if b == 1 else 0)) + y) for a, b in SITES]
        more = [(x - 5 * k, y + 3 * k), (x + 3 * k, y + 3 * k)][:chance.randrange(3)]
        told.append([site for site in more if site not in sites] + sites)
    return told


def folds_are_above(sites, way, weights):
    heights = {(x, y): x * x + y * y - w for (x, y), w in zip(sorted(sites), weights)}
    return all(fold > 0 for fold in slow_ways.folds(way, heights).values())


def adds_up(sites, way, paper):
    """Whether the amounts times the folds are 0 for the heights that are 1 for one site each."""
    for one in sites:
        folds = slow_ways.folds(way, {site: int(site == one) for site in sites})
        if sum(amount * folds[edge] for edge, amount in paper) != 0:
            return False
    return True


class Examples(unittest.TestCase):
    def test_e404(self):
        self.assertEqual([regular(SITES, WAY)[0], is_paper(SITES, WAY, PAPER)], ["paper", True])


class Regular(unittest.TestCase):
    within = 0

    def check(self, sites, way):
        word, told = regular(sites, way)
        if word == "weights":
            self.assertEqual([type(w) for w in told], [int] * len(sites))
            self.assertTrue(folds_are_above(sites, way, told), (sites, way))
            self.assertIs(is_weights(sites, way, told), True)
            heavy = [(x, y, w) for (x, y), w in zip(sorted(sites), told)]
            if max(abs(w) for w in told) <= 10 ** 13:
                self.within += 1
                faces = [list(three) for three in way]
                self.assertEqual((power_faces(heavy), {kind(heavy, site) for site in heavy}), (sorted(faces), {"seen"}))
        else:
            self.assertEqual(word, "paper")
            edges = [edge for edge, _ in told]
            self.assertEqual(edges, sorted(set(edges)))
            self.assertTrue(edges and set(edges) <= set(slow.inner_edges(way)))
            self.assertTrue(all(type(amount) is int and amount >= 1 for _, amount in told))
            self.assertTrue(adds_up(sites, way, told), (sites, way))
            self.assertIs(is_paper(sites, way, told), True)
        return word

    def test_all_triangulations_of_few(self):
        for sites in FEW:
            ways = all_ways(sites)
            for way in ways[::1 + len(ways) // 12]:
                word = self.check(sites, way)
                if len(sites) <= 5:
                    self.assertEqual(word, "weights")

    def test_triangles_within_one_another(self):
        found = {}
        for sites in turned(30):
            ways = all_ways(sites)
            for way in ways[::1 + len(ways) // 40]:
                word = self.check(sites, way)
                found[word] = found.get(word, 0) + 1
        self.assertGreater(found["paper"], 5)
        self.assertGreater(found["weights"], 99)
        self.assertEqual(self.within, found["weights"])

    def test_those_of_the_subdivision(self):
        for sites in FEW + [samples.RING[:8], samples.grid(4, 2), samples.grid(3, 2)]:
            self.assertEqual(self.check(sites, Subdivision(sites).triangles()), "weights")

    def test_rows(self):
        for sites in samples.ROWS + [[(3, 4)], [(0, 0), (1, 7)]]:
            word, told = regular(sites, [])
            self.assertEqual((word, is_weights(sites, [], told)), ("weights", True))
            if len(sites) > 0:
                heavy = [(x, y, w) for (x, y), w in zip(sorted(sites), told)]
                self.assertEqual({kind(heavy, site) for site in heavy}, {"seen"})

    def test_corners_in_any_order(self):
        word, told = regular(SITES[::-1], [(c, a, b) for a, b, c in WAY[::-1]])
        self.assertEqual((word, is_paper(SITES, WAY, told)), ("paper", True))

    def test_what_is_told_is_new(self):
        word, told = regular(SITES, WAY)
        told.append(1)
        self.assertIs(is_paper(SITES, WAY, regular(SITES, WAY)[1]), True)

    def test_eight_and_nine(self):
        nine = samples.RING[:9]
        self.check(nine[:8], placed(nine[:8]))
        with self.assertRaises(LimitExceeded) as caught:
            regular(nine, placed(nine))
        self.assertEqual(caught.exception.limit, 8)
        for wrong, at in ((placed(nine)[:-1], 6), (None, -1), ([None], 0)):
            with self.assertRaises(InvalidTriangles) as caught:
                regular(nine, wrong)
            self.assertEqual(caught.exception.at, at)


def drawn(sites, chance):
    """Weights of which some make the subdivision, and some do not."""
    reach = chance.choice((0, 1, 3, 20, 10 ** 13))
    return [chance.randint(-reach, reach) for _ in sites]


class IsWeights(unittest.TestCase):
    def test_against_cells(self):
        chance, found = random.Random(8), set()
        for sites in FEW + turned(6):
            rows, ways = sorted(sites), all_ways(sites)
            for way in ways[::1 + len(ways) // 8]:
                for weights in (drawn(sites, chance), drawn(sites, chance)):
                    heavy = [(x, y, w) for (x, y), w in zip(rows, weights)]
                    right = all(kind(heavy, site) == "seen" for site in heavy)
                    right = right and power_faces(heavy) == [list(three) for three in way]
                    self.assertIs(is_weights(sites, way, weights), right, (sites, way, weights))
                    found.add(right)
        self.assertEqual(found, {True, False})

    def test_spoilt_in_one_place(self):
        way = Subdivision(SITES).triangles()
        right = regular(SITES, way)[1]
        self.assertIs(is_weights(SITES, way, right), True)
        self.assertIs(is_weights(SITES, way, [w + 10 ** 900 for w in right]), True)
        for at in range(6):
            self.assertIs(is_weights(SITES, way, right[:at] + right[at + 1:]), False)
            for wrong in [None, "1", True, (1,), [1], 10 ** 900, -10 ** 900, 1j]:
                weights = right[:at] + [wrong] + right[at + 1:]
                if not isinstance(wrong, int) or isinstance(wrong, bool):
                    self.assertIs(is_weights(SITES, way, weights), False)
                else:
                    self.assertIs(is_weights(SITES, way, weights), folds_are_above(SITES, way, weights))
        for wrong in neither() + [tuple(right), right + [0], [right]]:
            self.assertIs(is_weights(SITES, way, wrong), False)
            self.assertIs(is_weights(SITES, way, [wrong] * 6), False)

    def test_rows(self):
        row = [(0, 0), (4, 0), (1, 0)]
        for w, right in ((-2, True), (-3, False), (-4, False)):
            self.assertIs(is_weights(row, [], [0, w, 0]), right)
        self.assertIs(is_weights([(0, 0), (9, 3)], [], [10 ** 50, -10 ** 50]), True)
        self.assertIs(is_weights([(0, 0)], [], [5]), True)
        self.assertIs(is_weights([(0, 0)], [], []), False)
        self.assertIs(is_weights([(0, 3), (0, 0), (0, 1), (0, 2)], [], [0, 1, 0, 0]), True)
        self.assertIs(is_weights([(0, 3), (0, 0), (0, 1), (0, 2)], [], [0, 3, 0, 0]), False)

    def test_an_edge_that_is_flat(self):
        square = [(0, 0), (2, 0), (0, 2), (2, 2)]
        way = [((0, 0), (2, 0), (0, 2)), ((0, 2), (2, 0), (2, 2))]
        for w, right in ((0, False), (-1, True), (1, False)):
            self.assertIs(is_weights(square, way, [w, 0, 0, 0]), right)


class IsPaper(unittest.TestCase):
    def test_spoilt_in_one_place(self):
        self.assertIs(is_paper(SITES, WAY, [(edge, 7 * many * 10 ** 100) for edge, many in PAPER]), True)
        wrong = neither() + [tuple(PAPER), PAPER[::-1], PAPER[:2], PAPER + PAPER, PAPER[:2] + PAPER[1:], [PAPER], []]
        wrong += [PAPER[:2] + [(PAPER[2][0], many)] for many in (0, -1, 2, True, None, "1", (1,), [1], 1j)]
        wrong += [PAPER[:2] + [(edge, 1)] for edge in ((PAPER[2][0][::-1]), None, ((0, 0), (4, 0)), (1, 2), ((0, 0),),
                                                       ((1, 2), (9, 9)), list(PAPER[2][0]), ((2, 1), (4, 0)))]
        wrong += [PAPER[:2] + [one] for one in neither() + [PAPER[2] + (1,), list(PAPER[2]), PAPER[2][::-1]]]
        wrong += [PAPER + [(((1, 2), (2, 1)), 1)], [(((0, 0), (1, 1)), 1)] + PAPER]
        for value in wrong:
            self.assertIs(is_paper(SITES, WAY, value), False)

    def test_no_paper_where_there_are_weights(self):
        for sites in FEW[:30]:
            way = placed(sites)
            edges = sorted(slow.inner_edges(way))
            self.assertIs(is_paper(sites, way, [(edge, 1) for edge in edges]), False)

    def test_rows(self):
        self.assertIs(is_paper([(0, 0), (1, 0), (2, 0)], [], [(((0, 0), (1, 0)), 1)]), False)
        self.assertIs(is_paper([(0, 0), (1, 0), (2, 0)], [], []), False)


class Limits(unittest.TestCase):
    def test_thirty_and_thirty_one(self):
        sites = samples.anywhere(31, 9, random.Random(2))
        few, way = sites[:30], placed(sites)
        self.assertIs(is_weights(few, Subdivision(few).triangles(), [0] * 29), False)
        self.assertIs(is_paper(few, placed(few), []), False)
        for ask in (is_weights, is_paper):
            for value in (None, [0] * 31, []):
                with self.assertRaises(LimitExceeded) as caught:
                    ask(sites, way, value)
                self.assertEqual(caught.exception.limit, 30)
            with self.assertRaises(InvalidTriangles) as caught:
                ask(sites, way[1:], None)
            self.assertEqual(caught.exception.at, len(way) - 1)
            with self.assertRaises(InvalidSites):
                ask(None, None, None)

    def test_thirty_sites(self):
        sites = samples.anywhere(30, FAR, random.Random(3))
        self.assertIs(is_weights(sites, Subdivision(sites).triangles(), [0] * 30), True)
