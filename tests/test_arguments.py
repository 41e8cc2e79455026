"""Points 2 and 4: which arguments are valid, and which wrong one is told."""

import unittest
from itertools import product

from nearcells import signs
from nearcells.errors import CellError, InvalidBound, NoCircle
from tests.wrong_values import DEPTH, FAR, LONG, no_places, no_sites

# For each function its arguments in order, with valid values.
VALID = {
    "side": [("a", (0, 0)), ("b", (4, 0)), ("c", (1, 3))],
    "is_between": [("a", (0, 0)), ("b", (4, 0)), ("c", (1, 3))],
    "circle": [("a", (0, 0)), ("b", (4, 0)), ("c", (1, 3))],
    "in_circle": [("a", (0, 0)), ("b", (4, 0)), ("c", (1, 3)), ("d", (1, 1))],
    "lift_side": [("a", (0, 0)), ("b", (4, 0)), ("c", (1, 3)), ("d", (1, 1))],
    "square": [("place", (1, 1, 2)), ("site", (4, 0))],
    "nearer": [("place", (1, 1, 2)), ("a", (0, 0)), ("b", (4, 0))],
}


def wrong_values(name):
    return no_places() if name == "place" else no_sites()


def raised(name, values):
    """The error that a call raises, by position and by name alike, or None."""
    function = getattr(signs, name)
    names = [argument for argument, _ in VALID[name]]
    one = error_of(lambda: function(*values))
    other = error_of(lambda: function(**dict(zip(names, values))))
    assert type(one) is type(other)
    assert getattr(one, "argument", None) == getattr(other, "argument", None)
    return one


def error_of(call):
    try:
        call()
    except CellError as error:
        return error
    return None


class Wrong(unittest.TestCase):
    def assert_bound(self, error, argument):
        self.assertIs(type(error), InvalidBound)
        self.assertEqual(error.argument, argument)

    def test_each_argument_alone(self):
        for name, arguments in VALID.items():
            for at, (argument, _) in enumerate(arguments):
                values = [value for _, value in arguments]
                for number, wrong in enumerate(wrong_values(argument)):
                    with self.subTest(name, argument=argument, number=number):
                        values[at] = wrong
                        self.assert_bound(raised(name, values), argument)

    def test_the_first_of_several_is_told(self):
        for name, arguments in VALID.items():
            for choice in product((False, True), repeat=len(arguments)):
                values = [None if wrong else value for wrong, (_, value) in zip(choice, arguments)]
                with self.subTest(name, choice=choice):
                    if any(choice):
                        self.assert_bound(raised(name, values), arguments[choice.index(True)][0])
                    else:
                        self.assertIsNone(raised(name, values))

    def test_alike_ends_of_side(self):
        self.assert_bound(raised("side", [(1, 2), (1, 2), (3, 4)]), "b")
        self.assert_bound(raised("side", [(1, 2), (1, 2), (1, 2)]), "b")

    def test_alike_ends_of_side_come_ahead_of_c(self):
        for wrong in no_sites():
            self.assert_bound(raised("side", [(1, 2), (1, 2), wrong]), "b")

    def test_what_is_wrong_in_a_comes_ahead_of_alike_ends(self):
        for wrong in no_sites():
            self.assert_bound(raised("side", [wrong, wrong, (3, 4)]), "a")

    def test_no_circle_comes_behind_all_arguments(self):
        row = [(0, 0), (1, 1), (5, 5)]
        alike = [(2, 2), (2, 2), (7, 1)]
        for three in (row, alike):
            for name in ("in_circle", "lift_side"):
                self.assertIs(type(raised(name, [*three, (0, 9)])), NoCircle)
                for wrong in no_sites():
                    self.assert_bound(raised(name, [*three, wrong]), "d")
        for wrong in no_sites():
            self.assert_bound(raised("circle", [(2, 2), (2, 2), wrong]), "c")
            self.assert_bound(raised("in_circle", [(2, 2), (2, 2), wrong, (0, 9)]), "c")

    def test_wrong_arguments_stay_as_they_were(self):
        for wrong in ([0, 0], {0: 0}, {1, 2}, [[(0, 0)], 3]):
            before = str(wrong)
            for name, arguments in VALID.items():
                raised(name, [wrong for _ in arguments])
            self.assertEqual(str(wrong), before)


class Edges(unittest.TestCase):
    def test_sites_at_the_bounds(self):
        for x, y in product((-FAR, 0, FAR), repeat=2):
            self.assertIs(signs.is_between((x, y), (x, y), (x, y)), True)

    def test_sites_one_beyond(self):
        for site in ((FAR + 1, 0), (0, FAR + 1), (-FAR - 1, 0), (0, -FAR - 1)):
            self.assertIs(type(raised("square", [(0, 0, 1), site])), InvalidBound)

    def test_places_of_thirty_digits(self):
        for place in ((LONG - 1, 0, 1), (0, LONG - 1, 1), (0, 1, LONG - 1), (1 - LONG, 1, 1)):
            self.assertIsNone(raised("square", [place, (0, 0)]))

    def test_places_of_thirty_one_digits(self):
        for place in ((LONG, 0, 1), (0, LONG, 1), (0, 1, LONG), (-LONG, 1, 1)):
            self.assertIs(type(raised("square", [place, (0, 0)])), InvalidBound)

    def test_places_have_no_other_bounds(self):
        # A place may be far beyond all sites, and have a divisor with one of its numbers.
        for place in ((0, 0, 1), (FAR * 9, -FAR * 9, 1), (2, 4, 3), (2, 3, 4), (0, 3, 4), (6, 10, 15)):
            self.assertIsNone(raised("nearer", [place, (0, 0), (1, 1)]))


class Deep(unittest.TestCase):
    def test_the_values_are_nested_as_deep_as_told(self):
        depths = []
        for wrong in no_sites():
            depth = 0
            while isinstance(wrong, (list, tuple)) and len(wrong) > 0 and depth <= DEPTH:
                wrong = wrong[0]
                depth += 1
            depths.append(depth)
        self.assertGreaterEqual(max(depths), DEPTH)
