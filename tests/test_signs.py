"""Points 5 to 8, and 2 as far as it reaches them: what the functions return."""

import unittest
from fractions import Fraction
from itertools import permutations

from nearcells.errors import NoCircle
from nearcells.signs import circle, in_circle, is_between, lift_side, nearer, side, square
from tests import exact

FAR = 10 ** 6
LONGEST = 10 ** 30 - 1
CORNERS = [(-FAR, -FAR), (FAR, -FAR), (-FAR, FAR), (FAR, FAR)]


class Examples(unittest.TestCase):
    def test_e01(self):
        found = [side((0, 0), (4, 0), (1, 3)), circle((0, 0), (4, 0), (1, 3)),
                 in_circle((0, 0), (2, 0), (0, 2), (2, 2)), square((1, 1, 2), (1, 0))]
        self.assertEqual(found, [1, ((2, 1, 1), (5, 1)), 0, (1, 2)])

    def test_e02(self):
        self.assertRaises(NoCircle, circle, (0, 0), (1, 1), (5, 5))


class Side(unittest.TestCase):
    def test_left_on_and_right(self):
        self.assertEqual(side((0, 0), (4, 0), (9, 1)), 1)
        self.assertEqual(side((0, 0), (4, 0), (9, 0)), 0)
        self.assertEqual(side((0, 0), (4, 0), (9, -1)), -1)
        self.assertEqual(side((0, 0), (0, 4), (-1, 0)), 1)

    def test_in_each_order(self):
        a, b, c = (0, 0), (4, 0), (1, 3)
        self.assertEqual([side(a, b, c), side(b, c, a), side(c, a, b)], [1, 1, 1])
        self.assertEqual([side(b, a, c), side(a, c, b), side(c, b, a)], [-1, -1, -1])

    def test_c_may_be_an_end(self):
        self.assertEqual(side((1, 2), (3, 5), (1, 2)), 0)
        self.assertEqual(side((1, 2), (3, 5), (3, 5)), 0)

    def test_far_and_hardly_off_the_line(self):
        self.assertEqual(side((-FAR, -FAR), (FAR, FAR - 1), (0, 0)), 1)
        self.assertEqual(side((-FAR, -FAR), (FAR, FAR), (0, 0)), 0)
        self.assertEqual(side((-FAR, -FAR), (FAR - 1, FAR), (0, 0)), -1)

    def test_against_a_plain_way(self):
        for a, b, c in exact.groups(3, 2000):
            if a != b:
                self.assertEqual(side(a, b, c), exact.side(a, b, c), (a, b, c))


class IsBetween(unittest.TestCase):
    def test_on_the_stretch(self):
        for a, b in permutations([(0, 0), (4, 2)], 2):
            told = [is_between(a, b, c) for c in ((0, 0), (2, 1), (4, 2))]
            self.assertEqual(told, [True, True, True])

    def test_beyond_and_beside(self):
        for a, b in permutations([(0, 0), (4, 2)], 2):
            for c in ((6, 3), (-2, -1), (2, 2), (2, 0), (0, 2), (4, 0), (3, 1)):
                self.assertIs(is_between(a, b, c), False)

    def test_upright(self):
        self.assertIs(is_between((1, 5), (1, -5), (1, 0)), True)
        self.assertIs(is_between((1, 5), (1, -5), (1, 6)), False)

    def test_ends_alike(self):
        self.assertIs(is_between((3, 3), (3, 3), (3, 3)), True)
        self.assertIs(is_between((3, 3), (3, 3), (3, 4)), False)
        self.assertIs(is_between((3, 3), (3, 3), (4, 4)), False)

    def test_against_a_plain_way(self):
        for a, b, c in exact.groups(3, 2000):
            self.assertIs(is_between(a, b, c), exact.is_between(a, b, c), (a, b, c))


class Circle(unittest.TestCase):
    def test_in_each_order(self):
        for three in permutations([(0, 0), (4, 0), (1, 3)]):
            self.assertEqual(circle(*three), ((2, 1, 1), (5, 1)))

    def test_lowest_terms(self):
        self.assertEqual(circle((0, 0), (1, 0), (0, 1)), ((1, 1, 2), (1, 2)))
        self.assertEqual(circle((0, 0), (2, 0), (1, 3)), ((3, 4, 3), (25, 9)))
        self.assertEqual(circle((0, 0), (0, -1), (-3, 0)), ((-3, -1, 2), (5, 2)))

    def test_around_the_origin(self):
        self.assertEqual(circle((-5, 0), (3, 4), (0, -5)), ((0, 0, 1), (25, 1)))

    def test_far(self):
        for three in permutations(CORNERS, 3):
            self.assertEqual(circle(*three), ((0, 0, 1), (2 * FAR * FAR, 1)))
        flat = [(-FAR, -FAR), (0, 0), (FAR, FAR - 1)]
        for three in permutations(flat):
            self.assertEqual(circle(*three), exact.circle(*flat))

    def test_in_a_row_or_alike(self):
        for row in ([(0, 0), (1, 1), (5, 5)], [(2, 3), (2, 3), (7, 1)], [(4, 4)] * 3):
            for three in permutations(row):
                self.assertRaises(NoCircle, circle, *three)

    def test_against_a_plain_way(self):
        for three in exact.groups(3, 1000):
            right = exact.circle(*three)
            if right is None:
                self.assertRaises(NoCircle, circle, *three)
            else:
                self.assertEqual(circle(*three), right, three)


class InCircle(unittest.TestCase):
    def test_inside_on_and_outside_in_each_order(self):
        for a, b, c in permutations([(0, 0), (2, 0), (0, 2)]):
            for d, right in (((1, 1), 1), ((2, 2), 0), ((0, 0), 0), ((3, 3), -1), ((2, -1), -1)):
                self.assertEqual(in_circle(a, b, c, d), right)
                self.assertEqual(lift_side(a, b, c, d), -right)

    def test_four_on_one_circle(self):
        ring = [(5, 0), (3, 4), (-4, 3), (0, -5)]
        for four in permutations(ring):
            self.assertEqual((in_circle(*four), lift_side(*four)), (0, 0))

    def test_far(self):
        for four in permutations(CORNERS):
            self.assertEqual((in_circle(*four), lift_side(*four)), (0, 0))
        for a, b, c in permutations(CORNERS[:3]):
            self.assertEqual(in_circle(a, b, c, (FAR - 1, FAR)), 1)
            self.assertEqual(lift_side(a, b, c, (FAR, FAR - 1)), -1)

    def test_in_a_row_or_alike(self):
        for row in ([(0, 0), (1, 1), (5, 5)], [(2, 3), (2, 3), (7, 1)], [(4, 4)] * 3):
            for a, b, c in permutations(row):
                for d in ((0, 0), (2, 3), (9, 0)):
                    self.assertRaises(NoCircle, in_circle, a, b, c, d)
                    self.assertRaises(NoCircle, lift_side, a, b, c, d)

    def test_against_plain_ways(self):
        for a, b, c, d in exact.groups(4, 1000):
            if exact.centre(a, b, c) is None:
                self.assertRaises(NoCircle, in_circle, a, b, c, d)
                self.assertRaises(NoCircle, lift_side, a, b, c, d)
                continue
            for x, y, z in permutations((a, b, c)):
                self.assertEqual(in_circle(x, y, z, d), exact.in_circle(a, b, c, d), (a, b, c, d))
                self.assertEqual(lift_side(x, y, z, d), exact.lift_side(a, b, c, d), (a, b, c, d))

    def test_centre_and_lifts_of_one_height(self):
        for a, b, c in exact.groups(3, 300):
            if exact.centre(a, b, c) is None:
                continue
            (x, y, d), _ = circle(a, b, c)
            heights = {s[0] ** 2 + s[1] ** 2 - Fraction(2 * x * s[0] + 2 * y * s[1], d)
                       for s in (a, b, c)}
            self.assertEqual(len(heights), 1)


class Square(unittest.TestCase):
    def test_whole_and_broken_places(self):
        self.assertEqual(square((3, 4, 1), (0, 0)), (25, 1))
        self.assertEqual(square((1, 1, 2), (1, 0)), (1, 2))
        self.assertEqual(square((-1, 5, 3), (2, -1)), (113, 9))

    def test_none(self):
        self.assertEqual(square((0, 0, 1), (0, 0)), (0, 1))
        self.assertEqual(square((-7, 9, 1), (-7, 9)), (0, 1))

    def test_far_and_long(self):
        self.assertEqual(square((FAR, FAR, 1), (-FAR, -FAR)), (8 * FAR * FAR, 1))
        place = (LONGEST, 1 - LONGEST, LONGEST - 1)
        right = exact.distance(Fraction(place[0], place[2]), Fraction(place[1], place[2]), (1, 2))
        self.assertEqual(square(place, (1, 2)), exact.pair(right))
        self.assertEqual(square((LONGEST, 0, 1), (0, 0)), (LONGEST ** 2, 1))

    def test_against_a_plain_way(self):
        for (site,), place in zip(exact.groups(1, 1000), exact.places(1000)):
            x, y, d = place
            right = exact.distance(Fraction(x, d), Fraction(y, d), site)
            self.assertEqual(square(place, site), exact.pair(right), (place, site))


class Nearer(unittest.TestCase):
    def test_each_answer(self):
        self.assertEqual(nearer((0, 0, 1), (1, 0), (0, 2)), -1)
        self.assertEqual(nearer((1, 1, 2), (1, 0), (0, 1)), 0)
        self.assertEqual(nearer((0, 0, 1), (0, 2), (1, 0)), 1)

    def test_sites_alike(self):
        self.assertEqual(nearer((3, 1, 2), (5, 5), (5, 5)), 0)

    def test_hardly_nearer(self):
        self.assertEqual(nearer((LONGEST, 0, 2), (FAR, 0), (FAR - 1, 0)), -1)
        self.assertEqual(nearer((1, 0, LONGEST), (-1, 0), (1, 0)), 1)
        self.assertEqual(nearer((-1, 0, LONGEST), (-1, 0), (1, 0)), -1)
        self.assertEqual(nearer((0, 1, LONGEST), (-1, 0), (1, 0)), 0)

    def test_against_a_plain_way(self):
        for (a, b), (x, y, d) in zip(exact.groups(2, 1000), exact.places(1000)):
            here = (Fraction(x, d), Fraction(y, d))
            right = exact.compare(exact.distance(*here, a), exact.distance(*here, b))
            self.assertEqual(nearer((x, y, d), a, b), right)
            self.assertEqual(nearer((x, y, d), b, a), -right)


class Conventions(unittest.TestCase):
    def test_arguments_by_name(self):
        a, b, c, d, p = (0, 0), (4, 0), (1, 3), (1, 1), (1, 1, 2)
        self.assertEqual(side(c=c, b=b, a=a), side(a, b, c))
        self.assertEqual(is_between(c=c, b=b, a=a), is_between(a, b, c))
        self.assertEqual(circle(c=c, b=b, a=a), circle(a, b, c))
        self.assertEqual(in_circle(d=d, c=c, b=b, a=a), in_circle(a, b, c, d))
        self.assertEqual(lift_side(d=d, c=c, b=b, a=a), lift_side(a, b, c, d))
        self.assertEqual(square(site=a, place=p), square(p, a))
        self.assertEqual(nearer(b=b, a=a, place=p), nearer(p, a, b))

    def test_integers_are_told_as_integers(self):
        a, b, c, d, p = (0, 0), (4, 0), (1, 3), (1, 1), (1, 1, 2)
        (x, y, over), (top, bottom) = circle(a, b, c)
        told = [side(a, b, c), side(a, b, b), in_circle(a, b, c, d), lift_side(a, b, c, d),
                in_circle(a, b, c, a), nearer(p, a, b), nearer(p, a, a), *square(p, a),
                x, y, over, top, bottom]
        self.assertEqual({type(number) for number in told}, {int})

    def test_the_same_call_returns_the_same(self):
        for four in exact.groups(4, 50):
            if exact.centre(*four[:3]) is not None:
                self.assertEqual(circle(*four[:3]), circle(*four[:3]))
                self.assertEqual(in_circle(*four), in_circle(*four))
