"""Point 2: integers without True and False, and fractions in lowest terms."""

import unittest
from fractions import Fraction

from nearcells.wholes import fraction, is_integer, sign
from tests.wrong_values import no_places, no_sites


class IsInteger(unittest.TestCase):
    def test_integers(self):
        for value in (0, 1, -1, 2, 10 ** 6, -10 ** 30, 10 ** 999, -10 ** 999):
            self.assertIs(is_integer(value), True)

    def test_true_and_false_are_none(self):
        self.assertIs(is_integer(True), False)
        self.assertIs(is_integer(False), False)

    def test_other_objects_are_none(self):
        for value in no_sites() + no_places():
            if isinstance(value, int):
                continue
            self.assertIs(is_integer(value), False)

    def test_by_name(self):
        self.assertIs(is_integer(value=3), True)


class Sign(unittest.TestCase):
    def test_signs(self):
        told = [sign(number) for number in (-10 ** 40, -1, 0, 1, 10 ** 40)]
        self.assertEqual(told, [-1, -1, 0, 1, 1])


class InLowestTerms(unittest.TestCase):
    def test_fractions(self):
        for top in range(-12, 13):
            for bottom in range(1, 13):
                right = Fraction(top, bottom)
                self.assertEqual(fraction(top, bottom), (right.numerator, right.denominator))
