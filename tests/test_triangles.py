"""Point 15: which triangles are a triangulation, and where one is wrong."""

import random
import unittest
from itertools import combinations, permutations

from nearcells.errors import InvalidTriangles
from nearcells.building import placed
from nearcells.subdivision import Subdivision, first_wrong, is_triangulation
from tests import samples, slow
from tests.wrong_values import neither, no_sites

SQUARE = [(0, 0), (2, 0), (0, 2), (2, 2)]
CUT = [((0, 0), (2, 0), (2, 2)), ((0, 0), (2, 2), (0, 2))]


def at_of(sites, triangles):
    """The at of the error that first_wrong raises, or None."""
    try:
        first_wrong(sites, triangles)
    except InvalidTriangles as error:
        return error.at
    return None


class IsTriangulation(unittest.TestCase):
    def test_orders_are_free(self):
        for two in permutations(CUT):
            for one in permutations(two[0]):
                for other in permutations(two[1]):
                    self.assertIs(is_triangulation(SQUARE, [one, other]), True)

    def test_rows_have_the_empty_list_alone(self):
        for row in samples.ROWS + [[(0, 0)], [(0, 0), (1, 2)]]:
            self.assertIs(is_triangulation(row, []), True)
            self.assertIsNone(first_wrong(row, []))
            self.assertIs(is_triangulation(row, [tuple(row[:3])]), False)
        self.assertIs(is_triangulation(SQUARE, []), False)

    def test_overlap_hole_lack_and_side(self):
        inner = SQUARE + [(1, 1)]
        around = [((0, 0), (2, 0), (1, 1)), ((2, 0), (2, 2), (1, 1)), ((2, 2), (0, 2), (1, 1)),
                  ((0, 2), (0, 0), (1, 1))]
        self.assertIs(is_triangulation(inner, around), True)
        for wrong in (around[:3], around + around[:1], around + CUT, CUT, CUT[:1] + around[2:],
                      around[:3] + CUT[1:], [((0, 0), (2, 0), (0, 2)), ((0, 0), (2, 0), (2, 2))]):
            self.assertIs(is_triangulation(inner, wrong), False, wrong)
            self.assertEqual(at_of(inner, wrong), len(wrong))
        side = [(0, 0), (2, 0), (1, 0), (0, 2)]
        self.assertIs(is_triangulation(side, [((0, 0), (2, 0), (0, 2))]), False)
        self.assertIs(is_triangulation(side, [((0, 0), (1, 0), (0, 2)), ((1, 0), (2, 0), (0, 2))]), True)

    def test_twice_around_a_site(self):
        # Each side has a triangle on both of its sides, but all is covered twice or more.
        star = [(2, 0), (1, 2), (-1, 2), (-2, 0), (-1, -2), (1, -2)]
        wrong = [(star[k], star[(k + 2) % 6], (0, 0)) for k in range(6)]
        self.assertIs(is_triangulation(star + [(0, 0)], wrong), False)

    def test_all_sets_of_few_triangles(self):
        for sites in (SQUARE, SQUARE + [(1, 1)], [(0, 0), (4, 0), (2, 0), (1, 2)], [(0, 0), (5, 1), (1, 4), (2, 2)]):
            triangles = [three for three in combinations(sites, 3) if not slow.in_row(three)]
            for many in range(6):
                for some in combinations(triangles, many):
                    told = is_triangulation(sites, list(some))
                    self.assertIs(told, slow.is_triangulation(sites, list(some)), (sites, some))

    def test_changed_triangulations(self):
        chance = random.Random(14)
        for sites in samples.small():
            right = placed(sites)
            self.assertTrue(is_triangulation(sites, right))
            triangles = [three for three in combinations(sites, 3) if not slow.in_row(three)]
            for _ in range(6 if triangles else 0):
                some = list(right)
                for _ in range(chance.randint(1, 2)):
                    some[chance.randrange(len(some))] = chance.choice(triangles)
                some += chance.choice(([], [], [chance.choice(triangles)]))
                chance.shuffle(some)
                told = is_triangulation(sites, some)
                self.assertIs(told, slow.is_triangulation(sites, some), (sites, some))
                self.assertEqual(at_of(sites, some), None if told else len(some))

    def test_every_other_object(self):
        for wrong in neither() + no_sites() + [tuple(CUT), {three: True for three in CUT}, CUT[0]]:
            self.assertIs(is_triangulation(SQUARE, wrong), False)
            self.assertEqual(at_of(SQUARE, wrong), -1 if not isinstance(wrong, list) else min(len(wrong), 0))

    def test_large(self):
        for sites in samples.large():
            cut = Subdivision(sites).triangles()
            self.assertIs(is_triangulation(sites, cut), True)
            self.assertIs(is_triangulation(sites, [three[::-1] for three in cut[::-1]]), True)
            if cut:
                self.assertIs(is_triangulation(sites, cut[1:]), False)
                self.assertIs(is_triangulation(sites, cut + cut[:1]), False)


class FirstWrong(unittest.TestCase):
    def test_e04(self):
        sites = [(0, 0), (2, 0), (0, 2), (3, 3)]
        told = first_wrong(sites, [((0, 0), (2, 0), (3, 3)), ((0, 0), (3, 3), (0, 2))])
        self.assertEqual(told, ((0, 0), (3, 3)))

    def test_against_a_plain_way(self):
        for sites in samples.small() + samples.middling():
            triangles = placed(sites)
            wrong = slow.wrong_edges(triangles)
            self.assertEqual(first_wrong(sites, triangles), min(wrong, default=None))

    def test_none_for_those_that_cut_the_faces(self):
        chance = random.Random(15)
        for sites in samples.small(60) + samples.middling() + samples.large():
            sub = Subdivision(sites)
            self.assertIsNone(first_wrong(sites, sub.triangles()))
            cut = []
            for face in sub.faces():
                at = chance.randrange(len(face))
                cut += slow.fans([face[at:] + face[:at]])
            self.assertIsNone(first_wrong(sites, cut))

    def test_none_exactly_if_all_circles_are_empty(self):
        for sites in (SQUARE + [(5, 1)], [(0, 0), (4, 0), (2, 1), (2, -1)], [(0, 0), (5, 1), (1, 4), (2, 2), (3, 5)]):
            faces = slow.faces(sites)
            triangles = [three for three in combinations(sites, 3) if not slow.in_row(three)]
            for many in range(2, 6):
                for some in combinations(triangles, many):
                    if slow.is_triangulation(sites, list(some)):
                        empty = all(any(set(three) <= set(face) for face in faces) for three in some)
                        self.assertEqual(first_wrong(sites, list(some)) is None, empty)

    def test_items_that_are_no_triangles(self):
        wrong = neither() + [
            ((0, 0), (2, 0)), ((0, 0), (2, 0), (0, 2), (2, 2)), [(0, 0), (2, 0), (0, 2)],
            ((0, 0), (2, 0), (2, 0)), ((0, 0), (0, 0), (0, 0)), ((0, 0), (2, 0), (1, 1)),
            ((0, 0), (2, 0), (4, 0)), ((0, 0), (2, 0), (0, True)), ((False, 0), (2, 0), (0, 2)),
            ((0, 0), (2, 0), [0, 2]), (0, 2, 4), ((0, 0), (2, 0), (FAR + 1, 0)), ("ab", "cd", "ef")]
        wrong += [((0, 0), (2, 0), value) for value in no_sites()]
        wrong += [(value, (2, 0), (0, 2)) for value in no_sites()]
        for value in wrong:
            self.assertEqual(at_of(SQUARE, [value]), 0)
            self.assertEqual(at_of(SQUARE, CUT + [value, None]), 2)
            self.assertEqual(at_of(SQUARE, [CUT[0], value, CUT[1], 5]), 1)
            self.assertIs(is_triangulation(SQUARE, CUT + [value]), False)
        row = [(0, 0), (1, 0), (2, 0)]
        self.assertEqual(at_of(row, [tuple(row)]), 0)
        self.assertEqual(at_of(row, [((0, 0), (1, 0), (0, 1))]), 0)

    def test_what_is_handed_in_stays(self):
        handed = [CUT[1][::-1], CUT[0]]
        first_wrong(SQUARE, handed)
        is_triangulation(SQUARE, handed)
        self.assertEqual(handed, [CUT[1][::-1], CUT[0]])


FAR = 10 ** 6
