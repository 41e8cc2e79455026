"""Points 2 and 4: which arguments are valid, which wrong one is told, and what calls leave alone."""

import copy
import importlib
import unittest
from itertools import product

from nearcells import signs
from nearcells.errors import (CellError, InvalidBound, InvalidSites, InvalidTriangles, LimitExceeded,
                              NoCircle)
from tests import samples
from nearcells.desks import Desk
from tests.table import CUT, HEAVY, PLACE, SITES, TAKES
from tests.wrong_values import (DEPTH, FAR, LONG, neither, no_boxes, no_deeds, no_directions, no_edges, no_heavy,
                                no_many, no_members, no_numbers, no_places, no_sites, no_squares, no_weighted,
                                wrong_sites, wrong_told, wrong_triangles, wrong_weighted)

BOUNDS = {"site": no_sites, "member": lambda: no_members(SITES), "place": no_places,
          "other": lambda: no_members(SITES) + [(0, 0)], "direction": no_directions,
          "edge": lambda: no_edges(SITES), "new": lambda: no_sites() + SITES,
          "goal": lambda: no_sites() + [site for site in SITES if site != (0, 0)],
          "end": lambda: no_places() + [PLACE], "box": no_boxes, "many": no_many, "square": no_squares,
          "spot": no_weighted, "heavy": lambda: no_heavy(HEAVY[1]), "told": lambda: wrong_told(SITES),
          "one": lambda: no_numbers(1, FAR), "two": lambda: no_numbers(2, FAR),
          "shift": lambda: no_numbers(-FAR, FAR), "low": lambda: no_numbers(-FAR, FAR),
          "high": lambda: no_numbers(-2, FAR), "height": lambda: no_numbers(1, None),
          "tall": lambda: no_numbers(2, None), "deeds": no_deeds,
          "desk": lambda: [value for value in neither() if not isinstance(value, Desk)]}
LISTS = {"sites", "weighted", "triangles", "told"}


def wrong_values(argument, kind):
    """The values that are wrong for an argument, each with the error that it raises."""
    if kind == "sites":
        return [(value, (InvalidSites, at)) for value, at in wrong_sites()]
    if kind == "weighted":
        return [(value, (InvalidSites, at)) for value, at in wrong_weighted()]
    if kind == "triangles":
        return [(value, (InvalidTriangles, at)) for value, at in wrong_triangles(SITES, CUT)]
    if kind == "free":
        return []
    return [(value, (InvalidBound, argument)) for value in BOUNDS[kind]()]


def function_of(name):
    module, _, word = name.partition(".")
    return getattr(importlib.import_module(f"nearcells.{module}"), word)


def valid(name):
    return [copy.deepcopy(value) for _, value, _ in TAKES[name]]


def raised(name, values):
    """The error that a call raises, by position and by name alike, or None."""
    function = function_of(name)
    names = [argument for argument, _, _ in TAKES[name]]
    one = error_of(lambda: function(*values))
    other = error_of(lambda: function(**dict(zip(names, values))))
    assert one == other
    return one


def error_of(call):
    """The class of the error and its field, or None."""
    try:
        call()
    except CellError as error:
        return (type(error), *vars(error).values())
    return None


class Wrong(unittest.TestCase):
    def test_each_argument_alone(self):
        for name, takes in TAKES.items():
            for at, (argument, _, kind) in enumerate(takes):
                values = valid(name)
                for number, (wrong, right) in enumerate(wrong_values(argument, kind)):
                    with self.subTest(name, argument=argument, number=number):
                        values[at] = wrong
                        self.assertEqual(raised(name, values), right)

    def test_the_first_of_several_is_told(self):
        raises = {"sites": (InvalidSites, -1), "weighted": (InvalidSites, -1), "triangles": (InvalidTriangles, -1)}
        for name, takes in TAKES.items():
            for choice in product((False, True), repeat=len(takes)):
                values = [None if wrong else value for wrong, value in zip(choice, valid(name))]
                right = [raises.get(kind, (InvalidBound, argument))
                         for wrong, (argument, _, kind) in zip(choice, takes) if wrong and kind != "free"]
                with self.subTest(name, choice=choice):
                    self.assertEqual(raised(name, values), right[0] if right else None)

    def test_triangles_of_other_sites(self):
        # What is wrong with the sites comes ahead, whatever the triangles are.
        for name, takes in TAKES.items():
            if [kind for _, _, kind in takes][:2] == ["sites", "triangles"]:
                values = valid(name)
                values[0] = [(0, 0), (9, 9), (0, 0)]
                self.assertEqual(raised(name, values), (InvalidSites, 2))
                values[0] = [(0, 0), (9, 9), (9, 0)]
                self.assertEqual(raised(name, values), (InvalidTriangles, 0))

    def test_alike_ends_of_side(self):
        self.assertEqual(raised("signs.side", [(1, 2), (1, 2), (3, 4)]), (InvalidBound, "b"))
        self.assertEqual(raised("signs.side", [(1, 2), (1, 2), (1, 2)]), (InvalidBound, "b"))

    def test_alike_ends_of_side_come_ahead_of_c(self):
        for wrong in no_sites():
            self.assertEqual(raised("signs.side", [(1, 2), (1, 2), wrong]), (InvalidBound, "b"))

    def test_what_is_wrong_in_a_comes_ahead_of_alike_ends(self):
        for wrong in no_sites():
            self.assertEqual(raised("signs.side", [wrong, wrong, (3, 4)]), (InvalidBound, "a"))

    def test_no_circle_comes_behind_all_arguments(self):
        row = [(0, 0), (1, 1), (5, 5)]
        alike = [(2, 2), (2, 2), (7, 1)]
        for three in (row, alike):
            for name in ("signs.in_circle", "signs.lift_side"):
                self.assertEqual(raised(name, [*three, (0, 9)]), (NoCircle,))
                for wrong in no_sites():
                    self.assertEqual(raised(name, [*three, wrong]), (InvalidBound, "d"))
        for wrong in no_sites():
            self.assertEqual(raised("signs.circle", [(2, 2), (2, 2), wrong]), (InvalidBound, "c"))
            self.assertEqual(raised("signs.in_circle", [(2, 2), (2, 2), wrong, (0, 9)]), (InvalidBound, "c"))

    def test_wrong_arguments_stay_as_they_were(self):
        for wrong in ([0, 0], {0: 0}, {1, 2}, [[(0, 0)], 3], [(0, 0), [1, 1]], [(0, 0), (0, 0)]):
            before = str(wrong)
            for name, takes in TAKES.items():
                raised(name, [wrong for _ in takes])
                for at in range(len(takes)):
                    values = valid(name)
                    values[at] = wrong
                    raised(name, values)
            self.assertEqual(str(wrong), before)


class Told(unittest.TestCase):
    """What holds for the results of all functions."""

    def test_arguments_stay_and_results_are_equal(self):
        for name in TAKES:
            values, names = valid(name), [argument for argument, _, _ in TAKES[name]]
            one = function_of(name)(*values)
            self.assertEqual(values, valid(name), name)
            self.assertTrue(function_of(name)(*values) == one, name)
            other = function_of(name)(**dict(reversed(list(zip(names, values)))))
            self.assertTrue(one == other and type(one) is type(other), name)

    def test_the_order_of_sites_and_triangles_does_not_matter(self):
        for name in TAKES:
            if name != "building.steps":
                values = valid(name)
                right = function_of(name)(*values)
                for turns in range(1, 6):
                    mixed = [mix(value, turns) if kind in LISTS else value
                             for value, (_, _, kind) in zip(values, TAKES[name])]
                    self.assertTrue(function_of(name)(*mixed) == right, name)

    def test_results_belong_to_the_caller(self):
        for name in TAKES:
            values = valid(name)
            right = copy.deepcopy(function_of(name)(*values))
            spoil(function_of(name)(*values))
            self.assertEqual(values, valid(name), name)
            self.assertTrue(function_of(name)(*values) == right, name)

    def test_lists_that_change_between_two_calls(self):
        for name, takes in TAKES.items():
            for at, (_, value, kind) in enumerate(takes):
                if isinstance(value, list):
                    values = valid(name)
                    told = [outcome(name, values)]
                    # Another item in a place, one more, and back again.
                    for change in (lambda rows: rows.__setitem__(0, rows[0][:1] + (7, *rows[0][2:])
                                                                 if isinstance(rows[0], tuple) else 7),
                                   lambda rows: rows.reverse(), lambda rows: rows.pop()):
                        change(values[at])
                        told.append(outcome(name, values))
                        self.assertEqual(told[-1], outcome(name, copy.deepcopy(values)), (name, at))
                    values[at][:] = copy.deepcopy(value)
                    self.assertEqual(outcome(name, values), told[0], (name, at))

    def test_integers_are_told_as_integers(self):
        for name in TAKES:
            for number in atoms(function_of(name)(*valid(name))):
                self.assertIn(type(number), (int, bool, str, type(None)), name)


def outcome(name, values):
    """What a call returns, or the error that it raises."""
    error = error_of(lambda: function_of(name)(*values))
    return ("returns", function_of(name)(*values)) if error is None else error


def mix(value, turns):
    """A list in another order."""
    return value[turns:] + value[:turns] if turns % 2 else value[turns::-1] + value[:turns:-1]


def spoil(value):
    """Change all lists in a result."""
    if isinstance(value, (list, tuple)):
        for item in value:
            spoil(item)
    if isinstance(value, list):
        value.append("spoilt")
        value.reverse()


def atoms(value):
    if isinstance(value, (list, tuple)):
        return [one for item in value for one in atoms(item)]
    return [value] if not hasattr(value, "edges") else atoms(value.sites() + value.edges() + value.faces())


class Edges(unittest.TestCase):
    def test_sites_at_the_bounds(self):
        for x, y in product((-FAR, 0, FAR), repeat=2):
            self.assertIs(signs.is_between((x, y), (x, y), (x, y)), True)

    def test_sites_one_beyond(self):
        for site in ((FAR + 1, 0), (0, FAR + 1), (-FAR - 1, 0), (0, -FAR - 1)):
            self.assertEqual(raised("signs.square", [(0, 0, 1), site]), (InvalidBound, "site"))
            self.assertEqual(raised("hulls.hull", [[(0, 0), site]]), (InvalidSites, 1))

    def test_places_of_thirty_digits(self):
        for place in ((LONG - 1, 0, 1), (0, LONG - 1, 1), (0, 1, LONG - 1), (1 - LONG, 1, 1)):
            self.assertIsNone(raised("signs.square", [place, (0, 0)]))

    def test_places_of_thirty_one_digits(self):
        for place in ((LONG, 0, 1), (0, LONG, 1), (0, 1, LONG), (-LONG, 1, 1)):
            self.assertEqual(raised("signs.square", [place, (0, 0)]), (InvalidBound, "place"))

    def test_places_have_no_other_bounds(self):
        # A place may be far beyond all sites, and have a divisor with one of its numbers.
        for place in ((0, 0, 1), (FAR * 9, -FAR * 9, 1), (2, 4, 3), (2, 3, 4), (0, 3, 4), (6, 10, 15)):
            self.assertIsNone(raised("signs.nearer", [place, (0, 0), (1, 1)]))

    def test_directions_need_not_be_in_lowest_terms(self):
        for direction in ((2, 4), (0, -7), (LONG - 1, 0), (LONG - 1, 1 - LONG), (-1, 0)):
            self.assertIsNone(raised("hulls.extreme", [[(0, 0)], direction]))

    def test_boxes_at_the_bounds(self):
        most = 10 ** 7
        for box in ((-most, -most, most, most), (most - 1, -most, most, 1 - most)):
            self.assertIsNone(raised("cells.boxed", [SITES, (0, 0), box]))

    def test_many_and_squares_at_the_bounds(self):
        for many in (1, 6, 7, 200):
            self.assertIsNone(raised("asks.nearest", [SITES, PLACE, many]))
        for square in ((0, 1), (1, 10 ** 900), (10 ** 900, 1), (10 ** 900, 7)):
            self.assertIsNone(raised("graphs.shape", [SITES, square]))

    def test_200_sites(self):
        for sites in (samples.grid(20, 10), samples.large()[0]):
            for name, takes in TAKES.items():
                if [kind for _, _, kind in takes] == ["sites"]:
                    self.assertIn(raised(name, [list(sites)]), (None, (LimitExceeded, 40), (LimitExceeded, 9)))
                    self.assertEqual(raised(name, [sites + [(50, 50)]]), (InvalidSites, 200))


class Deep(unittest.TestCase):
    def test_the_values_are_nested_as_deep_as_told(self):
        depths = []
        for wrong in no_sites():
            depth = 0
            while isinstance(wrong, (list, tuple)) and len(wrong) > 0 and depth <= DEPTH:
                wrong = wrong[0]
                depth += 1
            depths.append(depth)
        self.assertGreaterEqual(max(depths), DEPTH)
