"""What ../shared/LANGUAGE.md asks of the package where no run could tell it: L18 and L28."""

import ast
import pathlib
import unittest

PACKAGE = pathlib.Path(__file__).resolve().parent.parent / "triedagain"
TREES = {path.stem: ast.parse(path.read_text()) for path in sorted(PACKAGE.glob("*.py"))}
# What equality may call besides functions of the package: builtins that change nothing.
CALLED = ("isinstance", "len", "list")


def nodes(tree, *kinds):
    return [node for node in ast.walk(tree) if isinstance(node, kinds)]


def methods(tree):
    """All (class, method) of a file."""
    return [(thing, row) for thing in nodes(tree, ast.ClassDef) for row in thing.body
            if isinstance(row, ast.FunctionDef)]


def stored_attributes(tree):
    return {node.attr for node in nodes(tree, ast.Attribute) if not isinstance(node.ctx, ast.Load)}


def function_named(module, name):
    """The file and the function that a name of this file means; None if it means none."""
    for row in TREES[module].body:
        if isinstance(row, ast.FunctionDef) and row.name == name:
            return module, row
        if isinstance(row, ast.ImportFrom) and name in [alias.name for alias in row.names]:
            return function_named(row.module.split(".")[1], name)
    return None


def own_lists(function):
    """The names that a function assigns nothing but new empty lists."""
    names = {}
    for node in nodes(function, ast.Assign):
        for target in node.targets:
            for name in nodes(target, ast.Name):
                is_new = isinstance(node.value, ast.List) and not node.value.elts
                names[name.id] = names.get(name.id, True) and is_new
    return [name for name in names if names[name]]


class Names(unittest.TestCase):
    def test_no_name_is_a_method_and_an_attribute(self):
        called = {row.name for tree in TREES.values() for _, row in methods(tree)}
        stored = {name for tree in TREES.values() for name in stored_attributes(tree)}
        self.assertIn("look", called)
        self.assertIn("look_now", stored)
        self.assertEqual(set(), called & stored)


class Equality(unittest.TestCase):
    def test_it_changes_nothing_through_what_it_calls_neither(self):
        for module, tree in TREES.items():
            for thing, row in methods(tree):
                if row.name in ("__eq__", "__len__"):
                    reached = self.reached(module, row)
                    if thing.name == "Session" and row.name == "__eq__":
                        self.assertLessEqual({"told_held", "told_marks", "told", "held_behind", "is_over"}, reached)

    def reached(self, module, function):
        """The names of all functions that are run, each of which is looked at."""
        found, waiting = set(), [(module, function)]
        while waiting:
            module, function = waiting.pop()
            if function.name not in found:
                found.add(function.name)
                self.changes_nothing(function)
                waiting.extend(self.calls(module, function))
        return found

    def changes_nothing(self, function):
        self.assertEqual([], nodes(function, ast.Delete, ast.Global, ast.Nonlocal, ast.Yield, ast.Lambda, ast.With))
        for node in nodes(function, ast.Attribute, ast.Subscript):
            self.assertIsInstance(node.ctx, ast.Load, ast.unparse(node))
        for node in nodes(function, ast.AugAssign):
            self.assertIsInstance(node.value, ast.Constant, ast.unparse(node))

    def calls(self, module, function):
        """The functions that this one calls by their names: it calls nothing else, but it may add to its own lists."""
        found = []
        for node in nodes(function, ast.Call):
            if isinstance(node.func, ast.Attribute):
                self.assertEqual("append", node.func.attr, ast.unparse(node))
                self.assertIn(node.func.value.id, own_lists(function))
            elif node.func.id not in CALLED:
                called = function_named(module, node.func.id)
                self.assertIsNotNone(called, ast.unparse(node))
                found.append(called)
        return found


if __name__ == "__main__":
    unittest.main()
