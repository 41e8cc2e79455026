"""Points 52 to 54: farthest sites and their cells."""

import random
import unittest
from fractions import Fraction
from itertools import combinations, permutations

from nearcells.asks import smallest_circle
from nearcells.errors import InvalidBound
from nearcells.farthest import (far_cell, far_edges, far_faces, far_met, far_vertices, farthest_from,
                                is_far_edge)
from nearcells.hulls import hull
from tests import exact, samples, slow, slow_cells
from tests.test_cells import some_places
from tests.wrong_values import no_members

SETS = samples.small(120) + samples.middling()[:6]
TRIANGLE = [(0, 0), (4, 0), (1, 3)]


def room(sites, a, b):
    """The open bounds of t (as in centres) between which all others are inside, or None."""
    low, high = None, None
    for s in sites:
        if s in (a, b):
            continue
        begin = exact.distance(*slow_cells.point(a, b, 0), s) - exact.distance(*slow_cells.point(a, b, 0), a)
        end = exact.distance(*slow_cells.point(a, b, 1), s) - exact.distance(*slow_cells.point(a, b, 1), a)
        slope = end - begin
        if slope == 0:
            if begin >= 0:
                return None
        elif slope > 0:
            high = -begin / slope if high is None else min(high, -begin / slope)
        else:
            low = -begin / slope if low is None else max(low, -begin / slope)
    if low is not None and high is not None and low >= high:
        return None
    return (low, high)


def edges(sites):
    return [(a, b) for a, b in combinations(sorted(sites), 2) if room(sites, a, b) is not None]


def faces(sites):
    """By all circles through three sites."""
    found = {}
    for three in combinations(sites, 3):
        point = exact.centre(*three)
        if point is not None and point not in found:
            square = exact.distance(*point, three[0])
            if max(exact.distance(*point, s) for s in sites) == square:
                found[point] = slow.border([s for s in sites if exact.distance(*point, s) == square])
    return found


def cell(sites, site):
    """The borders of a far cell, by the room of each pair: from where all others are nearer."""
    found = []
    for other in sites:
        told = room(sites, site, other) if other != site else None
        if told is not None:
            # The cell is on the other's side, on the left of who goes against the growth of t.
            low, high = told
            found.append((other, slow_cells.point(site, other, high), slow_cells.point(site, other, low)))
    if not found:
        return []
    begins = {begin: (other, begin, end) for other, begin, end in found}
    told = [begins[None]]
    while len(told) < len(found):
        told.append(begins[told[-1][2]])
    return [(other, slow_cells.as_place(begin), slow_cells.as_place(end)) for other, begin, end in told]


class Examples(unittest.TestCase):
    def test_e305(self):
        told = [far_cell(TRIANGLE, (0, 0)), far_vertices(TRIANGLE), farthest_from(TRIANGLE, (1, 1, 1))]
        self.assertEqual(told, [[((4, 0), None, (2, 1, 1)), ((1, 3), (2, 1, 1), None)],
                                [((2, 1, 1), (5, 1), [(0, 0), (1, 3), (4, 0)])], ((10, 1), [(4, 0)])])

    def test_square(self):
        square = [(0, 0), (2, 0), (0, 2), (2, 2), (1, 1)]
        self.assertEqual(far_edges(square), [((0, 0), (0, 2)), ((0, 0), (2, 0)), ((0, 2), (2, 2)), ((2, 0), (2, 2))])
        self.assertEqual(far_faces(square), [[(0, 0), (2, 0), (2, 2), (0, 2)]])


class Distances(unittest.TestCase):
    def test_by_a_look_at_all(self):
        for number, sites in enumerate(SETS + samples.large()[:2]):
            for place in some_places(sites, 5, number):
                x, y = slow_cells.as_point(place)
                rooms = {s: exact.distance(x, y, s) for s in sites}
                far = sorted(s for s in sites if rooms[s] == max(rooms.values()))
                self.assertEqual(farthest_from(sites, place), (exact.pair(max(rooms.values())), far))
                self.assertEqual(far_met(sites, place), far)
                self.assertTrue(set(far) <= set(hull(sites)))

    def test_places_at_which_many_are_as_far(self):
        self.assertEqual(farthest_from(samples.RING, (0, 0, 1)), ((25, 1), sorted(samples.RING)))
        self.assertEqual(far_met([(0, 0), (2, 0), (1, 0)], (1, 7, 1)), [(0, 0), (2, 0)])
        self.assertEqual(farthest_from([(3, 3)], (3, 3, 1)), ((0, 1), [(3, 3)]))


class Parts(unittest.TestCase):
    def test_against_all_circles(self):
        for sites in SETS:
            with self.subTest(sites=sites):
                found = faces(sites)
                self.assertEqual(far_edges(sites), edges(sites))
                self.assertEqual(far_faces(sites), sorted(found.values()))
                right = [(exact.place_of(*point), exact.pair(exact.distance(*point, found[point][0])),
                          sorted(found[point])) for point in sorted(found)]
                self.assertEqual(far_vertices(sites), right)

    def test_far_edges_are_told_one_by_one(self):
        for sites in SETS:
            for a, b in permutations(sites[:5], 2):
                self.assertIs(is_far_edge(sites, a, b), tuple(sorted((a, b))) in far_edges(sites))

    def test_many_on_one_circle(self):
        for sites in (samples.RING, samples.WIDE + [(0, 0)], samples.far_ring()[:200]):
            self.assertEqual(far_faces(sites), [hull(sites)])
            self.assertEqual(len(far_edges(sites)), len(hull(sites)))

    def test_single_and_rows(self):
        self.assertEqual((far_edges([(1, 1)]), far_faces([(1, 1)]), far_vertices([(1, 1)])), ([], [], []))
        for row in samples.ROWS:
            ends = (min(row), max(row))
            self.assertEqual((far_edges(row), far_faces(row), far_vertices(row)), ([ends], [], []))

    def test_far_faces_part_the_corners(self):
        for sites in samples.middling() + samples.large():
            parts, corners = far_faces(sites), hull(sites)
            area = sum(slow.turn(face[0], a, b) for face in parts for a, b in zip(face[1:], face[2:]))
            self.assertEqual(area, sum(slow.turn(corners[0], a, b) for a, b in zip(corners[1:], corners[2:])))
            if len(corners) > 2:
                most = 2 * len(corners) - 3
                self.assertLessEqual(len(far_edges(sites)), most)
                self.assertEqual(len(far_edges(sites)) == most, all(len(face) == 3 for face in parts))
            for face in parts:
                point = exact.centre(*face[:3])
                square = exact.distance(*point, face[0])
                self.assertEqual({s for s in corners if exact.distance(*point, s) >= square}, set(face))

    def test_the_smallest_circle(self):
        for sites in SETS:
            place = smallest_circle(sites)[0]
            if len(sites) > 1:
                met = [face for where, _, face in far_vertices(sites) if where == place]
                middles = [exact.place_of(Fraction(a[0] + b[0], 2), Fraction(a[1] + b[1], 2)) for a, b in far_edges(sites)]
                x, y = slow_cells.as_point(place)
                inside = any(slow.where(face, x, y) >= 0 for face in met)
                self.assertTrue(inside or place in middles, sites)


class FarCell(unittest.TestCase):
    def test_by_the_room_of_each_pair(self):
        for sites in SETS:
            corners = hull(sites)
            for site in sites:
                right = cell(sites, site) if site in corners else None
                self.assertEqual(far_cell(sites, site), right, (sites, site))

    def test_by_hand(self):
        self.assertEqual(far_cell([(0, 0)], (0, 0)), [])
        self.assertEqual(far_cell([(0, 0), (4, 0), (2, 0)], (0, 0)), [((4, 0), None, None)])
        self.assertIsNone(far_cell([(0, 0), (4, 0), (2, 0)], (2, 0)))
        square = [(0, 0), (2, 0), (0, 2), (2, 2)]
        self.assertEqual(far_cell(square, (0, 0)), [((2, 0), None, (1, 1, 1)), ((0, 2), (1, 1, 1), None)])
        self.assertIsNone(far_cell(square + [(1, 0)], (1, 0)))

    def test_places_are_in_the_cells(self):
        chance = random.Random(7)
        for sites in samples.middling() + samples.large()[:3]:
            for site in chance.sample(hull(sites), min(6, len(hull(sites)))):
                borders = far_cell(sites, site)
                self.assertEqual((borders[0][1], borders[-1][2]), (None, None))
                self.assertEqual([end for _, _, end in borders[:-1]], [begin for _, begin, _ in borders[1:]])
                for other, begin, _ in borders[1:]:
                    self.assertTrue({site, other} <= set(far_met(sites, begin)))

    def test_errors(self):
        for wrong in no_members(TRIANGLE):
            with self.assertRaises(InvalidBound) as caught:
                far_cell(TRIANGLE, wrong)
            self.assertEqual(caught.exception.argument, "site")
            for a, b, name in ((wrong, (0, 0), "a"), (wrong, wrong, "a"), ((0, 0), wrong, "b")):
                with self.assertRaises(InvalidBound) as caught:
                    is_far_edge(TRIANGLE, a, b)
                self.assertEqual(caught.exception.argument, name)
        with self.assertRaises(InvalidBound) as caught:
            is_far_edge(TRIANGLE, (0, 0), (0, 0))
        self.assertEqual(caught.exception.argument, "b")
