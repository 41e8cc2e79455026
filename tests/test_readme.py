"""The calls that README.md shows return what it shows."""

import doctest
import pathlib
import unittest

ROOT = pathlib.Path(__file__).resolve().parent.parent


class Readme(unittest.TestCase):
    def test_its_calls(self):
        found = doctest.testfile(str(ROOT / "README.md"), module_relative=False)
        self.assertGreater(found.attempted, 0)
        self.assertEqual(found.failed, 0)
