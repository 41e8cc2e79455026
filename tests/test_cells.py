"""Points 20 to 24: cells, their borders, vertices and areas, and the cells on a way."""

import random
import unittest
from fractions import Fraction
from itertools import combinations

from nearcells.cells import along, boxed, cell, double_area, meeting, touching, vertices
from nearcells.hulls import border
from nearcells.polygons import least_place, sorted_by_place
from nearcells.subdivision import Subdivision
from tests import exact, samples, slow, slow_cells

FAR = 10 ** 6
LONGEST = 10 ** 30 - 1
THREE = [(0, 0), (4, 0), (1, 3)]
SQUARE = [(0, 0), (2, 0), (0, 2), (2, 2)]


def some_places(sites, many, seed):
    """Places about sites: themselves, middles, centres, on edges, and others."""
    chance = random.Random(seed)
    for _ in range(many):
        a, b, c = (chance.choice(sites) for _ in range(3))
        kind = chance.randrange(4)
        if kind == 0:
            yield (a[0], a[1], 1)
        elif kind == 1:
            share = Fraction(chance.randint(-1, 6), chance.choice((2, 4, 5)))
            yield exact.place_of(a[0] + share * (b[0] - a[0]), a[1] + share * (b[1] - a[1]))
        elif kind == 2 and exact.centre(a, b, c) is not None:
            yield exact.place_of(*exact.centre(a, b, c))
        else:
            spread = Fraction(chance.randint(-9, 9), chance.choice((1, 3, 10 ** 9)))
            yield exact.place_of(Fraction(a[0] + b[0], 2) + spread, Fraction(a[1] + c[1], 2) - spread)


class Examples(unittest.TestCase):
    def test_e06(self):
        self.assertEqual(cell(THREE, (1, 3)), [((0, 0), None, (2, 1, 1)), ((4, 0), (2, 1, 1), None)])
        self.assertEqual(vertices(THREE), [((2, 1, 1), (5, 1), [(0, 0), (1, 3), (4, 0)])])
        self.assertEqual(boxed(THREE, (0, 0), (0, 0, 2, 1)), (4, 1))

    def test_of_the_points(self):
        self.assertEqual(cell(THREE, (0, 0)), [((4, 0), None, (2, 1, 1)), ((1, 3), (2, 1, 1), None)])
        self.assertEqual(meeting(SQUARE, (1, 1, 1)), sorted(SQUARE))
        self.assertEqual(boxed([(0, 0), (4, 0)], (0, 0), (0, 0, 4, 1)), (4, 1))
        self.assertEqual(along(THREE, (0, 0, 1), (4, 0, 1)), [(0, 0), (4, 0)])


class Cells(unittest.TestCase):
    def test_single_and_rows(self):
        self.assertEqual(cell([(7, 7)], (7, 7)), [])
        self.assertEqual(cell([(7, 7), (7, 1)], (7, 7)), [((7, 1), None, None)])
        row = [(4, 0), (0, 0), (9, 0)]
        self.assertEqual(cell(row, (4, 0)), [((0, 0), None, None), ((9, 0), None, None)])
        self.assertEqual(cell(row, (9, 0)), [((4, 0), None, None)])

    def test_from_the_least_begin(self):
        told = cell(SQUARE + [(1, 1)], (1, 1))
        self.assertEqual(told, [((0, 0), (0, 1, 1), (1, 0, 1)), ((2, 0), (1, 0, 1), (2, 1, 1)),
                                ((2, 2), (2, 1, 1), (1, 2, 1)), ((0, 2), (1, 2, 1), (0, 1, 1))])

    def test_against_a_plain_way(self):
        for sites in samples.small() + samples.middling()[::3]:
            for site in sites:
                right = [(other, slow_cells.as_place(begin), slow_cells.as_place(end))
                         for other, begin, end in slow_cells.borders(sites, site)]
                self.assertEqual(cell(sites, site), right, (sites, site))

    def test_borders_are_those_of_the_edges(self):
        for sites in samples.middling() + samples.large()[:2]:
            sub = Subdivision(sites)
            outer = border(sites)
            for site in sites[:40]:
                told = cell(sites, site)
                self.assertEqual({other for other, _, _ in told}, set(sub.neighbours(site)))
                self.assertEqual(any(begin is None for _, begin, _ in told), site in outer)


class Vertices(unittest.TestCase):
    def test_against_a_plain_way(self):
        for sites in samples.small() + samples.middling():
            found = {exact.centre(*face[:3]): sorted(face) for face in slow.faces(sites)}
            right = [(exact.place_of(*spot), exact.pair(exact.distance(*spot, found[spot][0])), found[spot])
                     for spot in sorted(found)]
            self.assertEqual(vertices(sites), right)

    def test_large_ascending_and_as_the_faces(self):
        for sites in samples.large():
            told = vertices(sites)
            spots = [slow_cells.as_point(place) for place, _, _ in told]
            self.assertEqual(spots, sorted(spots))
            faces = sorted(sorted(face) for face in Subdivision(sites).faces())
            self.assertEqual(sorted(near for _, _, near in told), faces)
            for place, square, near in told[::9]:
                self.assertEqual(meeting(sites, place), near)
                self.assertEqual(exact.pair(exact.distance(*slow_cells.as_point(place), near[0])), square)


class Order(unittest.TestCase):
    def test_places_are_ordered_as_points(self):
        chance = random.Random(22)
        for most in (3, 7, 40, 10 ** 30):
            spots = {(Fraction(chance.randint(-most, most), chance.randint(1, most)),
                      Fraction(chance.randint(-3, 3), chance.randint(1, 4))) for _ in range(300)}
            spots |= {(x, y + 1) for x, y in spots}
            rows = [(exact.place_of(*spot), str(spot)) for spot in spots]
            right = [(exact.place_of(*spot), str(spot)) for spot in sorted(spots)]
            self.assertEqual(sorted_by_place(rows), right)
            self.assertEqual(rows[least_place([place for place, _ in rows])], right[0])
        self.assertEqual(sorted_by_place([]), [])


class Others(unittest.TestCase):
    def test_are_the_neighbours(self):
        for sites in samples.small(60) + samples.middling() + samples.large():
            sub = Subdivision(sites)
            for site in sites[:12]:
                told = [other for other, _, _ in cell(sites, site)]
                right = sub.neighbours(site)
                self.assertEqual(sorted(told), sorted(right))
                if told:
                    at = right.index(told[0])
                    self.assertEqual(told, right[at:] + right[:at])

    def test_ends_are_centres_of_faces(self):
        for sites in samples.middling() + samples.large()[:5]:
            places = {place: near for place, _, near in vertices(sites)}
            for site in sites[:12]:
                for other, begin, end in cell(sites, site):
                    for place in (begin, end):
                        self.assertTrue(place is None or {site, other} <= set(places[place]))


class Meeting(unittest.TestCase):
    def test_against_a_plain_way(self):
        for number, sites in enumerate(samples.small()):
            for place in some_places(sites, 8, number):
                self.assertEqual(meeting(sites, place), slow_cells.meeting(sites, place))

    def test_hardly_nearer(self):
        told = [meeting([(0, 0), (2, 0)], p) for p in ((LONGEST - 1, 0, LONGEST), (1, 9, 1), (LONGEST, 0, LONGEST - 1))]
        self.assertEqual(told, [[(0, 0)], [(0, 0), (2, 0)], [(2, 0)]])


class Touching(unittest.TestCase):
    def test_square_and_single(self):
        self.assertEqual(touching(SQUARE), list(combinations(sorted(SQUARE), 2)))
        self.assertEqual(touching([(1, 1)]), [])

    def test_against_a_plain_way(self):
        for sites in samples.small() + samples.middling()[:8]:
            right = []
            for a, b in combinations(sorted(sites), 2):
                room = slow.bounds(sites, a, b)
                if room is not None and (None in room or room[0] <= room[1]):
                    right.append((a, b))
            self.assertEqual(touching(sites), right)

    def test_edges_and_diagonals_of_faces(self):
        for sites in samples.small(60) + samples.middling() + samples.large():
            sub = Subdivision(sites)
            pairs = {pair for face in sub.faces() for pair in combinations(sorted(face), 2)}
            self.assertEqual(touching(sites), sorted(pairs | set(sub.edges())))

    def test_a_large_ring(self):
        ring = samples.far_ring()[:200]
        self.assertEqual(touching(ring), list(combinations(sorted(ring), 2)))


class Areas(unittest.TestCase):
    def test_double_area_by_hand(self):
        self.assertEqual(double_area(SQUARE + [(1, 1)], (1, 1)), (4, 1))
        self.assertIsNone(double_area(SQUARE, (0, 0)))
        self.assertIsNone(double_area([(3, 3)], (3, 3)))
        self.assertIsNone(double_area([(0, 0), (1, 0), (2, 0)], (1, 0)))

    def test_double_area_against_a_plain_way(self):
        for sites in samples.small() + samples.middling():
            outer = slow.border(sites)
            for site in sites:
                right = None
                if site not in outer:
                    right = exact.pair(slow_cells.area([b for _, b, _ in slow_cells.borders(sites, site)]))
                self.assertEqual(double_area(sites, site), right, (sites, site))

    def test_boxed_against_a_plain_way(self):
        chance = random.Random(21)
        for sites in samples.small():
            for _ in range(4):
                x, y = chance.choice(sites)
                reach = chance.choice((1, 2, 5, 100, 9 * FAR))
                left, low = x - chance.randint(0, reach), y - chance.randint(0, reach)
                box = (left, low, left + chance.randint(1, reach), low + chance.randint(1, reach))
                corners = slow_cells.box_corners(*box)
                for site in sites:
                    right = slow_cells.area(slow_cells.cell_part(sites, site, corners))
                    self.assertEqual(boxed(sites, site, box), exact.pair(right), (sites, site, box))

    def test_boxes_of_all_kinds(self):
        most = 10 ** 7
        self.assertEqual(boxed([(3, 3)], (3, 3), (-most, -most, most, most)), (8 * most * most, 1))
        self.assertEqual(boxed(SQUARE, (0, 0), (2, 2, 3, 3)), (0, 1))
        self.assertEqual(boxed(SQUARE, (0, 0), (-9, -9, -8, -8)), (2, 1))
        self.assertEqual(boxed(SQUARE, (0, 0), (0, 0, 2, 2)), (2, 1))
        self.assertEqual(boxed(SQUARE, (0, 0), (1, 0, 2, 1)), (0, 1))

    def test_the_parts_add_up(self):
        for sites in samples.small(40) + samples.middling() + [samples.large()[1][:120]]:
            for box in ((-3, -2, 4, 7), (-10 ** 7, -9, 10 ** 7, 10 ** 7), (0, 0, 1, 1)):
                whole = sum(Fraction(*boxed(sites, site, box)) for site in sites)
                self.assertEqual(whole, 2 * (box[2] - box[0]) * (box[3] - box[1]))


class Along(unittest.TestCase):
    def test_on_a_common_border(self):
        self.assertEqual(along([(0, 0), (2, 0)], (1, 5, 1), (1, -5, 1)), [(0, 0), (2, 0)])
        self.assertEqual(along([(2, 0), (0, 0)], (1, -5, 1), (1, 5, 1)), [(0, 0), (2, 0)])
        self.assertEqual(along(SQUARE, (1, -9, 1), (1, 9, 1)), [(0, 0), (2, 0), (0, 2), (2, 2)])
        self.assertEqual(along(SQUARE, (1, 9, 1), (1, -9, 1)), [(0, 2), (2, 2), (0, 0), (2, 0)])

    def test_through_a_vertex(self):
        self.assertEqual(along(SQUARE, (0, 0, 1), (2, 2, 1)), [(0, 0), (2, 2)])
        self.assertEqual(along(SQUARE, (1, 1, 1), (2, 2, 1)), [(2, 2)])
        self.assertEqual(along(SQUARE, (0, 0, 1), (1, 1, 1)), [(0, 0)])

    def test_hardly_into_a_cell(self):
        n = LONGEST
        self.assertEqual(along([(0, 0), (2, 0)], (0, 0, 1), (n, 0, n - 1)), [(0, 0), (2, 0)])
        self.assertEqual(along([(0, 0), (2, 0)], (0, 0, 1), (1, 0, 1)), [(0, 0)])
        self.assertEqual(along([(5, 5)], (n, 0, 1), (0, n, 1)), [(5, 5)])

    def test_against_a_plain_way(self):
        for number, sites in enumerate(samples.small() + samples.middling()):
            spots = list(some_places(sites, 12, number))
            for a, b in zip(spots[::2], spots[1::2]):
                if a != b:
                    told = along(sites, a, b)
                    self.assertEqual(told, slow_cells.along(sites, a, b), (sites, a, b))
                    self.assertEqual(len(set(told)), len(told))

    def test_many_sites(self):
        for sites in samples.large():
            a, b = min(sites), max(sites)
            told = along(sites, (a[0], a[1], 1), (b[0], b[1], 1))
            self.assertEqual((told[0], told[-1]), (a, b))
            self.assertEqual(len(set(told)), len(told))
        row = [(x, 0) for x in range(200)]
        self.assertEqual(along(row, (-5, 1, 1), (500, 1, 1)), row)
