"""What ../shared/LANGUAGE.md asks of names in the package, where no run could tell it."""

import ast
import pathlib
import unittest

PACKAGE = pathlib.Path(__file__).resolve().parent.parent / "triedagain"


def trees():
    """The parsed files of the package by their names."""
    return {path.stem: ast.parse(path.read_text()) for path in sorted(PACKAGE.glob("*.py"))}


def methods(nodes):
    """The names of all methods in these trees."""
    return {row.name for tree in nodes for thing in ast.walk(tree) if isinstance(thing, ast.ClassDef)
            for row in thing.body if isinstance(row, ast.FunctionDef)}


def attributes(nodes):
    """The names of all attributes that are assigned in these trees."""
    return {thing.attr for tree in nodes for thing in ast.walk(tree)
            if isinstance(thing, ast.Attribute) and not isinstance(thing.ctx, ast.Load)}


class Names(unittest.TestCase):
    def test_no_name_is_a_method_and_an_attribute(self):
        nodes = list(trees().values())
        self.assertIn("look", methods(nodes))
        self.assertIn("look_now", attributes(nodes))
        self.assertEqual(set(), methods(nodes) & attributes(nodes))


if __name__ == "__main__":
    unittest.main()
