"""Point 4: the error classes, their fields and their base classes."""

import inspect
import unittest

from nearcells import errors
from tests.wrong_values import nested_dict, nested_list, nested_tuple

FIELDS = {
    "InvalidSites": "at",
    "InvalidTriangles": "at",
    "InvalidBound": "argument",
    "InvalidCall": "call",
    "LimitExceeded": "limit",
}


class ErrorClasses(unittest.TestCase):
    def test_base_of_all(self):
        self.assertEqual(errors.CellError.__bases__, (ArithmeticError,))

    def test_each_has_one_base_class(self):
        for name in [*FIELDS, "NoCircle"]:
            with self.subTest(name):
                self.assertEqual(getattr(errors, name).__bases__, (errors.CellError,))

    def test_no_other_classes(self):
        found = [name for name, _ in inspect.getmembers(errors, inspect.isclass)]
        self.assertEqual(sorted(found), sorted([*FIELDS, "NoCircle", "CellError"]))

    def test_all_can_be_caught_as_one(self):
        for base in (errors.CellError, ArithmeticError):
            with self.assertRaises(base):
                raise errors.InvalidBound("a")


class Fields(unittest.TestCase):
    def test_by_position_and_by_name(self):
        for name, field in FIELDS.items():
            made = getattr(errors, name)
            for value in (-1, 0, 200, "b", ("put", (0, 0)), None, [1]):
                with self.subTest(name, value=value):
                    self.assertEqual(getattr(made(value), field), value)
                    self.assertEqual(getattr(made(**{field: value}), field), value)

    def test_each_object_has_its_own_field(self):
        one, other = errors.InvalidSites(1), errors.InvalidSites(2)
        self.assertEqual((one.at, other.at), (1, 2))

    def test_fields_are_needed_and_no_more_are_taken(self):
        for name, field in FIELDS.items():
            made = getattr(errors, name)
            with self.subTest(name):
                self.assertRaises(TypeError, made)
                self.assertRaises(TypeError, made, 1, 2)
                self.assertRaises(TypeError, made, other=1)
                self.assertRaises(TypeError, made, 1, **{field: 1})

    def test_no_circle_has_no_fields(self):
        self.assertEqual(vars(errors.NoCircle()), {})
        self.assertRaises(TypeError, errors.NoCircle, 1)
        self.assertRaises(TypeError, errors.NoCircle, at=1)

    def test_fields_may_be_nested_deep(self):
        for value in (nested_list(), nested_tuple(), nested_dict()):
            for name, field in FIELDS.items():
                with self.subTest(name):
                    self.assertTrue(getattr(getattr(errors, name)(value), field) is value)
