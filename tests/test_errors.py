"""[5] and the interface of triedagain.errors; what errors keep [3]."""

import inspect
import unittest

from triedagain import errors
from triedagain.errors import NoName, NoPlace, TriedError
from triedagain.programs import Program, part_at
from tests.samples import raised

ERRORS = {
    "NoProgram": ["index", "part"], "NoName": ["name"], "NoExpression": [], "NoPlace": ["path"],
    "NoText": ["line", "column"], "NoResult": [], "BadLimit": [], "TooMany": ["limit"], "NoCode": ["index"],
    "Over": [], "BadPlace": ["spot"], "NothingDone": [], "NoOpen": ["spot"], "NoEnvironment": ["name"],
    "NoRelation": ["word"], "NoAtoms": ["atoms"], "NoTest": ["test"], "NoStep": ["wrong"], "NoChain": ["index"],
    "TooWide": [], "NoBridge": [],
}


class Errors(unittest.TestCase):
    def test_all_classes_stand_directly_under_tried_error(self):
        self.assertEqual((ValueError,), TriedError.__bases__)
        for name in ERRORS:
            self.assertEqual((TriedError,), getattr(errors, name).__bases__, name)
        classes = [name for name, thing in vars(errors).items() if inspect.isclass(thing)]
        self.assertEqual(sorted(list(ERRORS) + ["TriedError"]), sorted(classes))
        for name in classes:
            self.assertEqual("triedagain.errors", getattr(errors, name).__module__)

    def test_attributes_have_the_names_of_the_interface_in_its_order(self):
        for name, attributes in ERRORS.items():
            given = list(range(3, 3 + len(attributes)))
            by_place = getattr(errors, name)(*given)
            by_name = getattr(errors, name)(**dict(zip(attributes, given)))
            for error in (by_place, by_name):
                self.assertEqual(dict(zip(attributes, given)), vars(error))
                self.assertIsInstance(error, TriedError)

    def test_errors_keep_any_value_as_it_is(self):
        program = Program([("main", (), ())])
        for value in (None, True, 0, "x", [], (), {}, [1, (2, [3])], {"a": [1]}, ("x", program)):
            for name in ("NoName", "NoPlace", "BadPlace", "NoAtoms", "NoTest", "NoStep", "NoRelation"):
                kept = getattr(getattr(errors, name)(value), ERRORS[name][0])
                self.assertEqual(value, kept)
                self.assertEqual(repr(value), repr(kept))

    def test_errors_keep_copies(self):
        path = [0, [1, ({"a": [2]},)]]
        error = raised(self, NoPlace, part_at, ("nothing",), path)
        path[1][1][0]["a"].append(3)
        path.append(4)
        self.assertEqual([0, [1, ({"a": [2]},)]], error.path)
        name = ["main"]
        error = raised(self, NoName, Program([("main", (), ())]).procedure, name)
        name.append("x")
        self.assertEqual(["main"], error.name)

    def test_a_value_twenty_deep_is_copied_and_a_deeper_one_does_no_harm(self):
        inner = ["x"]
        deep = inner
        for _ in range(19):
            deep = [deep]
        error = NoPlace(deep)
        inner.append("y")
        for _ in range(19):
            deep = deep[0]
        found = error.path
        for _ in range(19):
            found = found[0]
        self.assertEqual(["x"], found)
        deepest = []
        for _ in range(100000):
            deepest = [deepest]
        self.assertIsInstance(NoPlace(deepest).path, list)


if __name__ == "__main__":
    unittest.main()
