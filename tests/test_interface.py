"""The interface: its names, the files that define them, and their arguments."""

import ast
import importlib
import inspect
import pathlib
import unittest

PACKAGE = pathlib.Path(__file__).resolve().parent.parent / "nearcells"
FUNCTIONS = {
    "wholes": {"is_integer": "value"},
    "signs": {
        "side": "a b c",
        "is_between": "a b c",
        "circle": "a b c",
        "in_circle": "a b c d",
        "lift_side": "a b c d",
        "square": "place site",
        "nearer": "place a b",
    },
    "hulls": {
        "hull": "sites",
        "border": "sites",
        "double_hull": "sites",
        "layers": "sites",
        "layer_of": "sites site",
        "where": "sites place",
        "seen_sides": "sites site",
        "extreme": "sites direction",
    },
    "subdivision": {
        "centres": "sites a b",
        "avoided": "sites a b",
        "is_triangulation": "sites triangles",
        "first_wrong": "sites triangles",
    },
    "building": {
        "wrong_edges": "sites triangles",
        "flipped": "sites triangles edge",
        "straightened": "sites triangles",
        "placed": "sites",
        "volume": "sites triangles",
        "steps": "order",
    },
    "cells": {
        "cell": "sites site",
        "vertices": "sites",
        "meeting": "sites place",
        "touching": "sites",
        "double_area": "sites site",
        "boxed": "sites site box",
        "along": "sites a b",
    },
    "asks": {
        "nearest": "sites place many=1",
        "closest": "sites",
        "farthest": "sites",
        "smallest_circle": "sites",
        "is_smallest": "sites place square paper",
        "largest_empty": "sites",
        "locate": "sites place",
    },
    "graphs": {
        "nearest_pairs": "sites",
        "least_tree": "sites",
        "tree_pairs": "sites",
        "relative": "sites",
        "gabriel": "sites",
        "tree_count": "sites",
        "is_least_tree": "sites pairs",
        "shape": "sites square",
    },
    "moves": {
        "coming": "sites site",
        "going": "sites site",
        "covering": "sites place",
        "shares": "sites place",
        "moved": "sites one other",
    },
    "ways": {
        "all_ways": "sites",
        "sure_edges": "sites",
        "flips": "sites triangles",
        "fewest_flips": "sites one other",
        "angles": "sites triangles",
        "best_way": "sites",
    },
    "powers": {
        "power": "place site",
        "least_power": "sites place",
        "kind": "sites site",
        "power_edges": "sites",
        "power_faces": "sites",
        "power_vertices": "sites",
        "cover": "sites site",
    },
    "regular": {
        "regular": "sites triangles",
        "is_weights": "sites triangles weights",
        "is_paper": "sites triangles paper",
    },
    "bound": {
        "sees": "sites told a b",
        "seen_from": "sites told site",
        "bound_faces": "sites told",
        "bound_edges": "sites told",
        "bound_triangles": "sites told",
        "bound_wrong": "sites told triangles",
        "crossed": "sites triangles a b",
    },
    "farthest": {
        "farthest_from": "sites place",
        "far_cell": "sites site",
        "far_vertices": "sites",
        "far_edges": "sites",
        "far_faces": "sites",
        "far_met": "sites place",
        "is_far_edge": "sites a b",
    },
    "shapes": {
        "counts": "sites",
        "grid": "m n",
        "grid_counts": "m n",
        "two_rows": "m n shift height",
        "two_rows_counts": "m n shift",
        "parabola": "low high",
        "parabola_counts": "low high",
        "zigzag": "m n height",
        "zigzag_counts": "m n",
    },
    "desks": {"replay": "deeds", "unlike": "one other"},
}
# The methods that the interface lists, besides their own object.
METHODS = {
    "Subdivision": {
        "sites": "", "edges": "", "triangles": "", "faces": "", "neighbours": "site",
        "face_circle": "face", "__eq__": "other",
    },
    "Desk": {
        "put": "site", "take": "site", "move": "site other", "sites": "", "edges": "", "faces": "",
        "changes": "", "deeds": "", "undo": "", "redo": "", "__eq__": "other",
    },
}
CLASSES = {
    "errors": {
        "CellError": None,
        "InvalidSites": "at",
        "InvalidTriangles": "at",
        "InvalidBound": "argument",
        "InvalidCall": "call",
        "NoCircle": "",
        "LimitExceeded": "limit",
    },
    "subdivision": {"Subdivision": "sites"},
    "desks": {"Desk": ""},
}


def defined(module, kind):
    """The names that a file defines itself, in its outermost rows."""
    tree = ast.parse((PACKAGE / f"{module}.py").read_text())
    return [row.name for row in tree.body if isinstance(row, kind)]


class Interface(unittest.TestCase):
    def assert_arguments(self, made, names):
        parameters = inspect.signature(made).parameters.values()
        self.assertEqual([str(one) for one in parameters], names.split())
        for one in parameters:
            self.assertIs(one.kind, one.POSITIONAL_OR_KEYWORD)

    def test_functions(self):
        for module, functions in FUNCTIONS.items():
            for name, arguments in functions.items():
                with self.subTest(module, name=name):
                    self.assertIn(name, defined(module, ast.FunctionDef))
                    found = getattr(importlib.import_module(f"nearcells.{module}"), name)
                    self.assert_arguments(found, arguments)

    def test_classes(self):
        for module, classes in CLASSES.items():
            for name, arguments in classes.items():
                with self.subTest(module, name=name):
                    self.assertIn(name, defined(module, ast.ClassDef))
                    found = getattr(importlib.import_module(f"nearcells.{module}"), name)
                    if arguments is not None:
                        self.assert_arguments(found, arguments)

    def test_methods_stand_in_the_class_itself(self):
        for module, classes in CLASSES.items():
            for name in classes:
                for method, arguments in METHODS.get(name, {}).items():
                    with self.subTest(name, method=method):
                        found = vars(getattr(importlib.import_module(f"nearcells.{module}"), name))
                        self.assert_arguments(found[method], f"self {arguments}")
