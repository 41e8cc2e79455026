"""Points 55 to 58: sets of a shape."""

import unittest
from itertools import combinations

from nearcells.errors import InvalidBound, LimitExceeded
from nearcells.hulls import border
from nearcells.shapes import (counts, grid, grid_counts, parabola, parabola_counts, two_rows,
                              two_rows_counts, zigzag, zigzag_counts)
from nearcells.signs import in_circle
from nearcells.subdivision import Subdivision
from tests import samples, slow

FAR = 10 ** 6


def told(call):
    """The argument or the limit of the error that a call raises, or None."""
    try:
        call()
    except InvalidBound as error:
        return error.argument
    except LimitExceeded as error:
        return error.limit
    return None


class Examples(unittest.TestCase):
    def test_e207(self):
        self.assertEqual([grid_counts(3, 2), two_rows_counts(3, 2, 1), parabola_counts(-2, 3), zigzag_counts(2, 3)],
                         [(6, 7, 2, 4), (5, 6, 2, 3), (6, 8, 3, 4), (6, 10, 5, 5)])


class Counts(unittest.TestCase):
    def test_one_by_one(self):
        for sites in samples.small() + samples.middling():
            faces = slow.faces(sites)
            right = (len(sites), len(slow.edges(sites)), len(faces), sum(len(face) - 2 for face in faces))
            self.assertEqual(counts(sites), right)
            if not slow.in_row(sites):
                self.assertEqual(right[0] + right[2], right[1] + 1)

    def test_many_sites(self):
        for sites in samples.large():
            sub = Subdivision(sites)
            self.assertEqual(counts(sites), (len(sites), len(sub.edges()), len(sub.faces()), len(sub.triangles())))


class Grid(unittest.TestCase):
    def test_sites(self):
        self.assertEqual(grid(2, 3), [(0, 0), (0, 1), (0, 2), (1, 0), (1, 1), (1, 2)])
        self.assertEqual(grid(1, 1), [(0, 0)])
        for m in range(1, 6):
            for n in range(1, 6):
                self.assertEqual(grid(m, n), samples.grid(m, n))
                self.assertEqual(grid_counts(m, n), counts(grid(m, n)))

    def test_faces_are_unit_squares(self):
        squares = [[(x, y), (x + 1, y), (x + 1, y + 1), (x, y + 1)] for x in range(4) for y in range(3)]
        self.assertEqual(Subdivision(grid(5, 4)).faces(), squares)

    def test_far_ones(self):
        self.assertEqual(grid_counts(FAR, 1), (FAR, FAR - 1, 0, 0))
        self.assertEqual(grid_counts(m=1, n=FAR), (FAR, FAR - 1, 0, 0))
        squares = (FAR - 1) ** 2
        self.assertEqual(grid_counts(FAR, FAR), (FAR ** 2, FAR ** 2 + squares - 1, squares, 2 * squares))

    def test_limits(self):
        for m, n in ((200, 1), (1, 200), (20, 10), (14, 14)):
            self.assertEqual(len(grid(m, n)), m * n)
        for m, n in ((201, 1), (1, 201), (3, 67), (FAR, FAR)):
            self.assertEqual(told(lambda: grid(m, n)), 200)
        self.assertEqual([told(lambda: grid(0, 0)), told(lambda: grid(FAR, FAR + 1)), told(lambda: grid(FAR + 1, 0))],
                         ["m", "n", "m"])
        self.assertEqual([told(lambda: grid_counts(1, 0)), told(lambda: grid_counts(True, 1))], ["n", "m"])


class TwoRows(unittest.TestCase):
    def test_sites(self):
        self.assertEqual(two_rows(2, 3, -1, 5), [(-1, 5), (0, 0), (0, 5), (1, 0), (1, 5)])
        self.assertEqual(two_rows(m=1, n=1, shift=7, height=1), [(0, 0), (7, 1)])

    def test_counts(self):
        for m in range(1, 6):
            for n in range(1, 6):
                for shift in range(-7, 8):
                    for height in (1, 2, 9):
                        self.assertEqual(two_rows_counts(m, n, shift), counts(two_rows(m, n, shift, height)))

    def test_triangles_and_faces_with_four_corners(self):
        for m, n, shift in ((4, 6, -2), (9, 3, 5), (2, 2, 1), (5, 5, 40), (1, 9, -3)):
            sub = Subdivision(two_rows(m, n, shift, 3))
            self.assertEqual(len(sub.triangles()), m + n - 2)
            above = {x for x in range(m - 1)} & {shift + x for x in range(n - 1)}
            self.assertEqual(sum(len(face) == 4 for face in sub.faces()), len(above))

    def test_far_ones(self):
        self.assertEqual(two_rows_counts(FAR, FAR, 0), (2 * FAR, 3 * FAR - 2, FAR - 1, 2 * FAR - 2))
        self.assertEqual(two_rows_counts(FAR, FAR, -FAR), (2 * FAR, 4 * FAR - 3, 2 * FAR - 2, 2 * FAR - 2))
        self.assertEqual(two_rows_counts(FAR, FAR, FAR - 2), (2 * FAR, 4 * FAR - 4, 2 * FAR - 3, 2 * FAR - 2))
        self.assertEqual(two_rows_counts(1, 1, FAR), (2, 1, 0, 0))

    def test_limits(self):
        self.assertEqual(len(two_rows(100, 100, -FAR, FAR)), 200)
        self.assertEqual(max(two_rows(1, 2, FAR - 1, FAR)), (FAR, FAR))
        calls = [(100, 101, 0, 1, 200), (1, 2, FAR, 1, FAR), (1, 1, FAR, 1, None), (1, 1, 0, FAR + 1, FAR),
                 (1, 1, 0, 10 ** 900, FAR), (199, 2, FAR, FAR + 1, 200), (1, 1, -FAR, 1, None), (1, 1, -FAR - 1, 0, "shift"),
                 (1, 1, FAR + 1, 0, "shift"), (1, 1, 0, 0, "height"), (0, 0, None, 0, "m"), (1, FAR + 1, None, 0, "n"),
                 (FAR, FAR, FAR, 0, "height")]
        for m, n, shift, height, right in calls:
            self.assertEqual(told(lambda: two_rows(m, n, shift, height)), right)
        self.assertEqual([told(lambda: two_rows_counts(1, 1, FAR + 1)), told(lambda: two_rows_counts(1, 0, None))],
                         ["shift", "n"])


class Parabola(unittest.TestCase):
    def test_sites(self):
        self.assertEqual(parabola(-2, 1), [(-2, 4), (-1, 1), (0, 0), (1, 1)])
        self.assertEqual(parabola(low=3, high=3), [(3, 9)])

    def test_counts(self):
        for low in range(-9, 9):
            for high in range(low, 10):
                self.assertEqual(parabola_counts(low, high), counts(parabola(low, high)), (low, high))

    def test_in_circle(self):
        for i, j, k, l in combinations(range(-5, 6), 4):
            inside = (l - i) * (l - j) * (l - k) * (l + i + j + k)
            right = (inside < 0) - (inside > 0)
            self.assertEqual(in_circle((i, i * i), (j, j * j), (k, k * k), (l, l * l)), right)

    def test_faces_with_four_corners(self):
        faces = [face for face in Subdivision(parabola(-5, 7)).faces() if len(face) > 3]
        right = [[(-t - 1, (t + 1) ** 2), (-t, t * t), (t, t * t), (t + 1, (t + 1) ** 2)] for t in range(1, 5)]
        self.assertEqual(faces, right[::-1])

    def test_far_ones(self):
        self.assertEqual(parabola_counts(-FAR, FAR), (2 * FAR + 1, 3 * FAR, FAR, 2 * FAR - 1))
        self.assertEqual(parabola_counts(0, FAR), (FAR + 1, 2 * FAR - 1, FAR - 1, FAR - 1))
        self.assertEqual([parabola_counts(FAR, FAR), parabola_counts(-FAR, 1 - FAR)], [(1, 0, 0, 0), (2, 1, 0, 0)])

    def test_limits(self):
        self.assertEqual(parabola(1000, 1000), [(1000, FAR)])
        self.assertEqual(len(parabola(-1000, -801)), 200)
        calls = [(0, 200, 200), (802, 1001, FAR), (-1001, -1001, FAR), (-FAR, FAR, 200), (FAR, FAR, FAR), (5, 4, "high"),
                 (FAR + 1, 0, "low"), (0, FAR + 1, "high"), (-FAR - 1, None, "low"), (0, None, "high")]
        for low, high, right in calls:
            self.assertEqual(told(lambda: parabola(low, high)), right)
            if right in ("low", "high"):
                self.assertEqual(told(lambda: parabola_counts(low, high)), right)


class Zigzag(unittest.TestCase):
    def test_sites(self):
        self.assertEqual(zigzag(2, 3, 5), [(0, 0), (0, 10), (1, 5), (2, 0), (2, 10), (3, 5)])

    def test_counts(self):
        for m in range(2, 7):
            for n in range(2, 7):
                for height in (2, 3, 10):
                    sites = zigzag(m, n, height)
                    self.assertEqual(zigzag_counts(m, n), counts(sites))
                    self.assertEqual({len(face) for face in Subdivision(sites).faces()}, {3})
                    self.assertEqual(len(border(sites)), 2 * m + n - 2)

    def test_far_ones(self):
        triangles = 2 * FAR ** 2 - 3 * FAR
        self.assertEqual(zigzag_counts(FAR, FAR), (FAR ** 2, FAR ** 2 + triangles - 1, triangles, triangles))

    def test_limits(self):
        self.assertEqual(len(zigzag(100, 2, FAR)), 200)
        self.assertEqual(len(zigzag(2, 100, 10101)), 200)
        calls = [(101, 2, 2, 200), (2, 2, FAR + 1, FAR), (2, 3, FAR // 2, None), (2, 3, FAR // 2 + 1, FAR),
                 (67, 3, FAR, 200), (1, 1, 1, "m"), (2, 1, 1, "n"), (2, 2, 1, "height"), (FAR + 1, 1, 1, "m"),
                 (2, FAR + 1, 1, "n"), (FAR, FAR, 10 ** 900, 200)]
        for m, n, height, right in calls:
            self.assertEqual(told(lambda: zigzag(m, n, height)), right)
        self.assertEqual([told(lambda: zigzag_counts(1, 2)), told(lambda: zigzag_counts(2, 1))], ["m", "n"])
