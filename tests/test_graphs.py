"""Points 30 to 33: graphs of near sites, least trees, and what discs cover together."""

import random
import unittest
from fractions import Fraction
from itertools import combinations, permutations

from nearcells.graphs import (gabriel, is_least_tree, least_tree, nearest_pairs, relative, shape,
                              tree_count, tree_pairs)
from nearcells.signs import circle
from nearcells.subdivision import Subdivision
from tests import exact, samples, slow, slow_cells
from tests.wrong_values import neither, no_sites

FAR = 10 ** 6
SQUARE = [(0, 0), (2, 0), (0, 2), (2, 2)]
SIDES = [((0, 0), (0, 2)), ((0, 0), (2, 0)), ((0, 2), (2, 2)), ((2, 0), (2, 2))]


class Examples(unittest.TestCase):
    def test_e304(self):
        s = [(0, 0), (1, 0), (0, 1), (1, 1), (0, 2), (1, 2)]
        self.assertEqual([tree_count(s), shape(s, (1, 4))[2:], len(least_tree(s)), len(gabriel(s))],
                         [15, (1, 2), 5, 7])

    def test_of_the_points(self):
        self.assertEqual(least_tree(SQUARE), SIDES[:3])
        self.assertEqual(tree_pairs(SQUARE), SIDES)
        self.assertEqual(tree_count(SQUARE), 4)
        face = [(0, 0), (2, 0), (2, 2), (0, 2)]
        self.assertEqual(shape(SQUARE, (1, 1)), (SIDES, [], 1, 1))
        self.assertEqual(shape(SQUARE, (2, 1)), (SIDES, [face], 1, 0))


class Graphs(unittest.TestCase):
    def test_single_and_two(self):
        for made in (nearest_pairs, least_tree, tree_pairs, relative, gabriel):
            self.assertEqual(made([(5, 5)]), [])
            self.assertEqual(made([(5, 5), (1, 5)]), [((1, 5), (5, 5))])
        self.assertEqual((tree_count([(5, 5)]), is_least_tree([(5, 5)], [])), (1, True))

    def test_nearest_pairs_against_a_plain_way(self):
        for sites in samples.small() + samples.middling():
            self.assertEqual(nearest_pairs(sites), slow_cells.nearest_pairs(sites))

    def test_relative_and_gabriel_against_plain_ways(self):
        for sites in samples.small() + samples.middling():
            apart, round_free = [], []
            for a, b in combinations(sorted(sites), 2):
                square = slow_cells.length((a, b))
                rooms = [(exact.distance(*a, s), exact.distance(*b, s)) for s in sites if s not in (a, b)]
                if all(max(room) >= square for room in rooms):
                    apart.append((a, b))
                if all(sum(room) > square for room in rooms):
                    round_free.append((a, b))
            self.assertEqual(relative(sites), apart, sites)
            self.assertEqual(gabriel(sites), round_free, sites)

    def test_each_is_part_of_the_next(self):
        for sites in samples.small() + samples.middling() + samples.large():
            told = [nearest_pairs(sites), tree_pairs(sites), relative(sites), gabriel(sites),
                    Subdivision(sites).edges()]
            for one, other in zip(told, told[1:]):
                self.assertLessEqual(set(one), set(other))
                self.assertEqual(one, sorted(one))
            self.assertLessEqual(set(least_tree(sites)), set(told[1]))


class Trees(unittest.TestCase):
    def test_against_all_trees(self):
        few = [sites for sites in samples.small(50, 5) if 1 < len(sites) <= 5]
        for sites in few + [samples.grid(3, 2)]:
            with self.subTest(sites=sites):
                trees = slow_cells.least_trees(sites)
                self.assertEqual(tree_count(sites), len(trees), sites)
                self.assertEqual(tree_pairs(sites), sorted({pair for tree in trees for pair in tree}))
                ordered = [sorted((slow_cells.length(pair), pair) for pair in tree) for tree in trees]
                self.assertEqual(least_tree(sites), [pair for _, pair in min(ordered)])

    def test_by_going_through_all_pairs(self):
        for sites in samples.middling() + samples.large()[:3]:
            joined = {s: {s} for s in sites}
            taken = []
            for _, a, b in sorted((slow_cells.length(pair), *pair) for pair in combinations(sorted(sites), 2)):
                if joined[a] is not joined[b]:
                    taken.append((a, b))
                    joined[a] |= joined[b]
                    for s in joined[b]:
                        joined[s] = joined[a]
            self.assertEqual(least_tree(sites), taken)
            self.assertTrue(is_least_tree(sites, taken[::-1]))

    def test_tree_pairs_are_not_joined_by_shorter_ones(self):
        for sites in samples.small(60) + samples.middling():
            pairs = list(combinations(sorted(sites), 2))
            right = []
            for a, b in pairs:
                shorter = [pair for pair in pairs if slow_cells.length(pair) < slow_cells.length((a, b))]
                if b not in slow_cells.reached_from(a, shorter):
                    right.append((a, b))
            self.assertEqual(tree_pairs(sites), right)

    def test_counts_of_known_graphs(self):
        # Ladders have 1, 4, 15, 56 .. trees, and a square grid of 3 by 3 sites 192.
        counts = [tree_count(samples.grid(n, 2)) for n in range(1, 7)]
        self.assertEqual(counts, [1, 4, 15, 56, 209, 780])
        self.assertEqual(tree_count(samples.grid(3, 3)), 192)
        self.assertEqual(tree_count(samples.grid(4, 4)), 100352)
        self.assertEqual(tree_count([(2 * x + y % 2, 2 * y) for x in range(2) for y in range(2)]), 3)
        self.assertEqual(tree_count([(x, 0) for x in range(200)]), 1)

    def test_counts_of_several_lengths(self):
        # Squares of side 1 that are joined by two ways of length 3 each.
        blocks = [(4 * k + x, y) for k in range(3) for x in (0, 1) for y in (0, 1)]
        self.assertEqual(tree_count(blocks), 4 ** 3 * 2 ** 2)

    def test_count_against_a_plain_determinant(self):
        for sites in samples.middling() + [samples.grid(5, 4), samples.large()[1][:40]]:
            self.assertEqual(tree_count(sites), count_by_lengths(sites))

    def test_is_least_tree_for_all_lists_of_pairs(self):
        for sites in (SQUARE, SQUARE[:3] + [(1, 0)], [(0, 0), (1, 0), (2, 0), (9, 9)]):
            trees = [set(tree) for tree in slow_cells.least_trees(sites)]
            pairs = list(combinations(sorted(sites), 2))
            for many in range(5):
                for some in combinations(pairs, many):
                    told = is_least_tree(sites, list(some))
                    self.assertIs(told, set(some) in trees)

    def test_is_least_tree_in_any_order(self):
        for order in permutations(SIDES[1:]):
            self.assertIs(is_least_tree(SQUARE, list(order)), True)
        self.assertIs(is_least_tree(SQUARE, SIDES[:2] + SIDES[:1]), False)
        self.assertIs(is_least_tree(SQUARE, SIDES[:2] + [((0, 2), (2, 0))]), False)

    def test_is_least_tree_of_other_objects(self):
        wrong = neither() + no_sites() + [
            tuple(SIDES[:3]), {SIDES[0]: 1, SIDES[1]: 1, SIDES[2]: 1}, SIDES, SIDES[:2], [], SIDES[:2] + [None],
            SIDES[:2] + [((2, 2), (0, 2))], SIDES[:2] + [[(0, 2), (2, 2)]], SIDES[:2] + [((0, 2), (2, 2), (0, 0))],
            SIDES[:2] + [((0, 2), (2, 3))], [((0, False), (0, 2))] + SIDES[1:3], SIDES[:2] + [((0, 2), [2, 2])]]
        wrong += [SIDES[:2] + [((0, 2), value)] for value in no_sites()]
        wrong += [SIDES[:2] + [value] for value in neither()]
        for pairs in wrong:
            self.assertIs(is_least_tree(SQUARE, pairs), False)
            self.assertIs(is_least_tree([(0, 0)], pairs), pairs == [] and isinstance(pairs, list))


def count_by_lengths(sites):
    """The number of least trees: for each length the trees of what shorter pairs have joined."""
    joined, many = {s: s for s in sites}, 1
    pairs = list(combinations(sorted(sites), 2))
    for square in sorted({slow_cells.length(pair) for pair in pairs}):
        ends = [(joined[a], joined[b]) for a, b in pairs if slow_cells.length((a, b)) == square]
        ends = [(a, b) for a, b in ends if a != b]
        for a, b in ends:
            one, other = joined[a], joined[b]
            joined = {s: other if held == one else held for s, held in joined.items()}
        kept = sorted({s for end in ends for s in end if joined[s] != s})
        rows = [[Fraction(0)] * len(kept) for _ in kept]
        for a, b in ends:
            for p, q in ((a, b), (b, a)):
                if p in kept:
                    rows[kept.index(p)][kept.index(p)] += 1
                    if q in kept:
                        rows[kept.index(p)][kept.index(q)] -= 1
        many *= eliminated(rows)
    return many


def eliminated(rows):
    """A determinant by taking away rows, with fractions."""
    told = Fraction(1)
    for at, row in enumerate(rows):
        told *= row[at]
        for other in rows[at + 1:]:
            share = other[at] / row[at]
            for k in range(at, len(row)):
                other[k] -= share * row[k]
    return told


class Shape(unittest.TestCase):
    def test_against_a_plain_way(self):
        chance = random.Random(31)
        for sites in samples.small() + samples.middling():
            faces = {tuple(face): Fraction(*circle(*face[:3])[1]) for face in slow.faces(sites)}
            reaches = {(a, b): slow_cells.reach(sites, a, b) for a, b in slow.edges(sites)}
            squares = [Fraction(0), *faces.values(), *reaches.values(), Fraction(7, 3)]
            for square in chance.sample(squares, min(4, len(squares))):
                for one in (square, square + Fraction(1, 10 ** 9), max(Fraction(0), square - Fraction(1, 10 ** 9))):
                    edges = sorted(edge for edge, reach in reaches.items() if reach <= one)
                    held = sorted(list(face) for face, far in faces.items() if far <= one)
                    pieces = slow_cells.pieces(sites, one)
                    holes = pieces - len(sites) + len(edges) - len(held)
                    self.assertEqual(shape(sites, exact.pair(one)), (edges, held, pieces, holes), (sites, one))

    def test_just_reached_and_just_not(self):
        self.assertEqual(shape([(0, 0), (2, 0)], (1, 1)), ([((0, 0), (2, 0))], [], 1, 0))
        self.assertEqual(shape([(0, 0), (2, 0)], (999999, 1000000)), ([], [], 2, 0))
        self.assertEqual(shape(SQUARE, (0, 1)), ([], [], 4, 0))
        self.assertEqual(shape([(7, 7)], (0, 1)), ([], [], 1, 0))

    def test_an_edge_that_is_reached_with_its_face_alone(self):
        flat = [(0, 0), (10, 0), (5, 1)]
        told = shape(flat, (13, 2))
        self.assertEqual((len(told[0]), told[1:]), (2, ([], 1, 0)))
        self.assertEqual(shape(flat, (169, 1))[1:], ([[(0, 0), (10, 0), (5, 1)]], 1, 0))
        self.assertEqual(len(shape(flat, (168, 1))[0]), 2)

    def test_holes_of_rings_and_grids(self):
        self.assertEqual(shape(samples.RING, (10, 1))[2:], (1, 1))
        self.assertEqual(shape(samples.RING, (25, 1))[2:], (1, 0))
        self.assertEqual(shape(samples.grid(5, 4), (1, 4))[2:], (1, 12))
        self.assertEqual(shape(samples.grid(5, 4), (1, 2))[2:], (1, 0))

    def test_no_holes_in_the_end(self):
        for sites in samples.small(60) + samples.large():
            edges, faces, pieces, holes = shape(sites, (10 ** 40, 1))
            sub = Subdivision(sites)
            self.assertEqual((edges, faces, pieces, holes), (sub.edges(), sub.faces(), 1, 0))
