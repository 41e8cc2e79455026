"""Points 34 to 38: what changes if a site comes, goes, or moves."""

import random
import unittest
from fractions import Fraction

from nearcells.errors import InvalidBound, LimitExceeded
from nearcells.hulls import where
from nearcells.moves import coming, covering, going, moved, shares
from nearcells.subdivision import Subdivision
from tests import exact, samples, slow, slow_cells
from tests.test_cells import some_places

FAR = 10 ** 6
LONGEST = 10 ** 30 - 1
SQUARE = [(0, 0), (2, 0), (0, 2), (2, 2)]
FACE = [(0, 0), (2, 0), (2, 2), (0, 2)]
SPOKES = [((0, 0), (1, 1)), ((0, 2), (1, 1)), ((1, 1), (2, 0)), ((1, 1), (2, 2))]


def more_sites(sites, many, seed):
    """Further sites: near others, in a row with two, or anywhere."""
    chance = random.Random(seed)
    found = []
    while len(found) < many:
        a, b = chance.choice(sites), chance.choice(sites)
        kind = chance.randrange(3)
        if kind == 0:
            site = (2 * b[0] - a[0], 2 * b[1] - a[1])
        elif kind == 1:
            site = ((a[0] + b[0]) // 2, (a[1] + b[1]) // 2)
        else:
            site = (a[0] + chance.randint(-3, 3), b[1] + chance.randint(-3, 3))
        if site not in sites and max(abs(site[0]), abs(site[1])) <= FAR:
            found.append(site)
        elif chance.randrange(9) == 0:
            found.append((FAR - len(found), -FAR))
    return [site for site in found if site not in sites]


class Examples(unittest.TestCase):
    def test_e205(self):
        gone = [[(0, 0), (1, 1), (0, 2)], [(0, 0), (2, 0), (1, 1)], [(0, 2), (1, 1), (2, 2)], [(1, 1), (2, 0), (2, 2)]]
        self.assertEqual(going(SQUARE + [(1, 1)], (1, 1)), (gone, [FACE], SPOKES, []))

    def test_e206(self):
        self.assertEqual(shares(SQUARE, (1, 1, 1)), [(site, (1, 4)) for site in sorted(SQUARE)])


class Coming(unittest.TestCase):
    def test_inside_and_on_a_circle(self):
        self.assertEqual(coming(SQUARE, (1, 1)), ([FACE], [], [], SPOKES))
        told = coming(SQUARE[:3], (2, 2))
        self.assertEqual(told, ([], [[(0, 0), (2, 0), (0, 2)]], [((0, 2), (2, 0))],
                                [((0, 2), (2, 2)), ((2, 0), (2, 2))]))

    def test_on_an_edge_outside_and_in_the_row(self):
        told = coming([(0, 0), (4, 0), (0, 4)], (2, 0))
        self.assertEqual(told[2:], ([((0, 0), (4, 0))], [((0, 0), (2, 0)), ((0, 4), (2, 0)), ((2, 0), (4, 0))]))
        told = coming([(0, 0), (2, 0)], (1, 0))
        self.assertEqual(told, ([], [], [((0, 0), (2, 0))], [((0, 0), (1, 0)), ((1, 0), (2, 0))]))
        self.assertEqual(coming([(0, 0)], (1, 0)), ([], [], [], [((0, 0), (1, 0))]))
        self.assertEqual(coming([(0, 0), (2, 0)], (1, 1))[2:], ([], [((0, 0), (1, 1)), ((1, 1), (2, 0))]))

    def test_against_a_plain_way(self):
        for number, sites in enumerate(samples.small(80)):
            before, held = slow.edges(sites), slow.faces(sites)
            for site in more_sites(sites, 3, number):
                behind, faces = slow.edges(sites + [site]), slow.faces(sites + [site])
                gone, grown, lost, won = coming(sites, site)
                self.assertEqual((gone, grown), slow_cells.covering(sites, (site[0], site[1], 1)))
                self.assertEqual(lost, [edge for edge in before if edge not in behind])
                self.assertEqual(won, [edge for edge in behind if edge not in before])
                self.check_facts(site, held, faces, gone, grown, won)

    def check_facts(self, site, held, faces, gone, grown, won):
        self.assertTrue(all(site in edge for edge in won))
        sets = [set(face) for face in faces]
        for face in held:
            if face not in gone:
                self.assertIn(set(face) | ({site} if face in grown else set()), sets)

    def test_200_sites(self):
        sites = samples.large()[1]
        self.assertEqual(len(coming(sites[:199], (50, 50))), 4)
        with self.assertRaises(LimitExceeded) as caught:
            coming(sites, (50, 50))
        self.assertEqual(caught.exception.limit, 200)
        for wrong in (None, sites[7], (1,), [50, 50], (FAR + 1, 0)):
            with self.assertRaises(InvalidBound):
                coming(sites, wrong)


class Going(unittest.TestCase):
    def test_from_two_and_from_rows(self):
        self.assertEqual(going([(0, 0), (2, 0)], (2, 0)), ([], [], [((0, 0), (2, 0))], []))
        row = [(0, 0), (2, 0), (1, 0)]
        self.assertEqual(going(row, (1, 0)), ([], [], [((0, 0), (1, 0)), ((1, 0), (2, 0))], [((0, 0), (2, 0))]))
        told = going(row + [(1, 5)], (1, 5))
        self.assertEqual((told[1], told[3]), ([], []))

    def test_the_only_one(self):
        with self.assertRaises(InvalidBound) as caught:
            going([(3, 3)], (3, 3))
        self.assertEqual(caught.exception.argument, "site")

    def test_against_a_plain_way(self):
        for sites in samples.small(100):
            before, held = slow.edges(sites), slow.faces(sites)
            for site in sites[:3] if len(sites) > 1 else []:
                rest = [other for other in sites if other != site]
                behind, faces = slow.edges(rest), slow.faces(rest)
                gone, come, lost, won = going(sites, site)
                self.assertEqual(gone, [face for face in held if site in face])
                self.assertEqual(come, [face for face in faces if face not in held])
                self.assertEqual(lost, [edge for edge in before if edge not in behind])
                self.assertEqual(won, [edge for edge in behind if edge not in before])
                back = coming(rest, site)
                self.assertEqual((lost, won, come), (back[3], back[2], sorted(back[0] + back[1])))


class ManySites(unittest.TestCase):
    """Against the subdivisions of more sites, before and behind."""

    def differences(self, before, behind):
        return ([item for item in before if item not in behind], [item for item in behind if item not in before])

    def test_coming_and_going(self):
        chance = random.Random(21)
        for number, sites in enumerate(samples.middling() + [s[:199] for s in samples.large()]):
            for site in more_sites(sites, 3, number):
                before, behind = Subdivision(sites), Subdivision(sites + [site])
                edges = self.differences(before.edges(), behind.edges())
                faces = self.differences(before.faces(), behind.faces())
                gone, grown, lost, won = coming(sites, site)
                self.assertEqual((lost, won), edges, (number, site))
                self.assertEqual(sorted(gone + grown), faces[0], (number, site))
                around = [face for face in behind.faces() if site in face]
                self.assertEqual(going(sites + [site], site), (around, faces[0], edges[1], edges[0]))
                other = chance.choice(sites)
                rest = [s for s in sites if s != other]
                if rest:
                    self.check_move(before, rest, other, site)

    def check_move(self, before, rest, other, site):
        behind = Subdivision(rest + [site]).edges()
        lost, won = moved(rest + [other], other, site)
        self.assertEqual(lost, [e for e in before.edges() if put(e, other, site) not in behind])
        self.assertEqual(won, [e for e in behind if put(e, site, other) not in before.edges()])


class Covering(unittest.TestCase):
    def test_square(self):
        told = [covering(SQUARE, p) for p in ((1, 1, 1), (2, 2, 1), (3, 1, 1), (LONGEST, LONGEST, LONGEST - 1))]
        self.assertEqual(told, [([FACE], []), ([], [FACE]), ([], []), ([FACE], [])])
        self.assertEqual(covering(SQUARE, (2 * LONGEST // 2, 0, LONGEST - 1)), ([FACE], []))
        self.assertEqual(covering([(0, 0), (2, 0)], (1, 0, 1)), ([], []))

    def test_against_a_plain_way(self):
        for number, sites in enumerate(samples.small() + samples.middling()):
            for place in some_places(sites, 3, number):
                self.assertEqual(covering(sites, place), slow_cells.covering(sites, place), (sites, place))

    def test_facts(self):
        for number, sites in enumerate(samples.middling() + samples.large()[:3]):
            for place in some_places(sites, 12, number):
                inside, on = covering(sites, place)
                site = slow_cells.as_point(place)
                if site in sites:
                    self.assertEqual(inside, [])
                    self.assertEqual(on, [face for face in Subdivision(sites).faces() if site in face])
                elif where(sites, place) >= 0:
                    self.assertNotEqual(inside, [])


class Shares(unittest.TestCase):
    def test_sites_rows_and_outside(self):
        self.assertEqual(shares(SQUARE, (2, 0, 1)), [((2, 0), (1, 1))])
        self.assertEqual(shares([(1, 1)], (1, 1, 1)), [((1, 1), (1, 1))])
        self.assertEqual(shares([(0, 0), (2, 0)], (2, 0, 1)), [((2, 0), (1, 1))])
        for place in ((1, 0, 1), (3, 1, 1), (1, 0, 2), (1, -1, 10 ** 9)):
            self.assertIsNone(shares(SQUARE, place))
        for place in ((1, 0, 1), (3, 0, 1), (1, 1, 1)):
            self.assertIsNone(shares([(0, 0), (2, 0)], place))
        self.assertIsNone(shares([(0, 0)], (1, 1, 1)))

    def test_by_hand(self):
        told = shares([(0, 0), (4, 0), (0, 4)], (1, 1, 1))
        self.assertEqual(told, [((0, 0), (1, 2)), ((0, 4), (1, 4)), ((4, 0), (1, 4))])

    def test_against_a_plain_way(self):
        for number, sites in enumerate(samples.small() + samples.middling()):
            for place in some_places(sites, 3, number):
                told = shares(sites, place)
                self.assertEqual(told, slow_cells.shares(sites, place), (sites, place))

    def test_facts(self):
        inner = 0
        for number, sites in enumerate(samples.small() + samples.middling() + samples.large()):
            for place in some_places(sites, 6, number):
                told = shares(sites, place)
                self.assertEqual(told is None, where(sites, place) < 1 and slow_cells.as_point(place) not in sites)
                if told is not None:
                    inner += 1
                    parts = [Fraction(*part) for _, part in told]
                    self.assertEqual((sum(parts), min(parts) > 0), (1, True))
                    sums = tuple(sum(part * s[k] for part, (s, _) in zip(parts, told)) for k in (0, 1))
                    self.assertEqual(sums, slow_cells.as_point(place))
                    self.assertEqual(told, sorted(told))
        self.assertGreater(inner, 100)

    def test_hardly_inside(self):
        for place in ((LONGEST, 1, LONGEST), (1, LONGEST - 1, LONGEST), (LONGEST - 1, 1, LONGEST)):
            told = shares(SQUARE, place)
            self.assertEqual(told, slow_cells.shares(SQUARE, place))
            self.assertEqual(sum(Fraction(*part) for _, part in told), 1)


class Moved(unittest.TestCase):
    def test_to_its_own_place(self):
        self.assertEqual(moved(SQUARE, (0, 0), (0, 0)), ([], []))
        self.assertEqual(moved([(0, 0)], (0, 0), (5, 5)), ([], []))

    def test_edges_with_the_same_further_end_stay(self):
        self.assertEqual(moved(SQUARE, (0, 0), (1, 1)), ([], [((1, 1), (2, 2))]))
        self.assertEqual(moved([(0, 0), (2, 0), (5, 0)], (0, 0), (9, 0)), ([((0, 0), (2, 0))], [((5, 0), (9, 0))]))

    def test_against_a_plain_way(self):
        for number, sites in enumerate(samples.small(100)):
            before = slow.edges(sites)
            for one, other in zip(sites, more_sites(sites, 3, number)):
                behind = slow.edges([other if s == one else s for s in sites])
                lost, won = moved(sites, one, other)
                self.assertEqual(lost, [e for e in before if put(e, one, other) not in behind])
                self.assertEqual(won, [e for e in behind if put(e, other, one) not in before])
                back = moved([other if s == one else s for s in sites], other, one)
                self.assertEqual(back, (won, lost))

    def test_another_one_of_the_set(self):
        for one, other in (((0, 0), (2, 2)), ((2, 2), (0, 0))):
            with self.assertRaises(InvalidBound) as caught:
                moved(SQUARE, one, other)
            self.assertEqual(caught.exception.argument, "other")


def put(edge, one, other):
    """An edge with a site in the place of another one."""
    return tuple(sorted(other if s == one else s for s in edge))
