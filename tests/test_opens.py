"""[37] to [40]: what open expressions are, and what stands in them."""

import inspect
import random
import unittest

from triedagain import opens
from triedagain.errors import NoOpen, NoPlace
from triedagain.opens import (
    given_names, is_open, most_names, open_fault, open_part, row_names, variables, ways, written)
from triedagain.programs import Program
from tests import bare
from tests.samples import is_frozen, listed, mixed, raised

PROGRAM = Program([("main", (), ())])
NONE, GIVE = ("none",), ("give", ())
X, Y, Z = ("name", "x"), ("name", "y"), ("name", "z")
JUNK = (None, True, False, 0, 1, -1, 10 ** 40, "", "x", "y", "r", "list", "none", "name", "alike", "X", "a b", [], (),
        {},
        {"x": 1}, [None], ("name",), ("name", "y"), ("name", "x", "x"), ("name", True), ("name", None), ("name", ["x"]),
        ("atom", True), ("atom", False), ("atom", None), ("atom", 1), ("atom", "a" * 21), ("atom", (1,)), ("none",),
        ("none", None), ("give",), ("give", ()), ("give", None), ("each", "x", "r"), ("alike", X), ("unlike", X, X),
        ("alike", X, X, X), PROGRAM, [PROGRAM], (("name", "x"),))


def each(name, row, body):
    return ("each", name, row, body)


def when(body, one=X, two=X, word="alike"):
    return ("when", (word, one, two), body)


def last(variable, item, body):
    return ("last", variable, item, body)


def choices(*parts):
    """All parts in choices that are nested as little as can be."""
    if len(parts) == 1:
        return parts[0]
    half = len(parts) // 2
    return ("choice", choices(*parts[:half]), choices(*parts[half:]))


def atom(value):
    return ("atom", value)


class Faults(unittest.TestCase):
    def fault(self, awaited, thing):
        """The place of the fault, whether rows are tuples or lists, is as awaited."""
        for given in (thing, listed(thing), mixed(thing), mixed(thing, False)):
            self.assertEqual(awaited, open_fault(given), thing)
            self.assertEqual(awaited is None, is_open(given))
            if awaited is not None:
                self.assertIs(tuple, open_fault(given).__class__)
                for work in (given_names, row_names, variables, written, most_names, ways):
                    self.assertEqual(awaited, raised(self, NoOpen, work, given).spot)
                self.assertEqual(awaited, raised(self, NoOpen, open_part, given, None).spot)
        if not isinstance(thing, dict):
            self.assertEqual(awaited, bare.fault(thing))

    def right(self, thing):
        self.fault(None, thing)

    def test_right_ones(self):
        for thing in (NONE, GIVE, ("give", (atom(1), atom("1"), atom(""))), each("x", "r", ("give", (X, X, X))),
                      ("choice", NONE, GIVE), when(GIVE, atom(1), atom(1)), last("v", atom(-5), NONE),
                      each("x", "x", last("x", X, when(GIVE))), ("choice", each("x", "r", GIVE), each("x", "r", NONE))):
            self.right(thing)

    def test_the_example(self):
        self.fault((3, 1, 0), each("x", "r", ("give", (Y,))))

    def test_what_is_no_part(self):
        for thing in (None, True, 0, 1, "", "none", (), [], {}, {"none": 1}, PROGRAM, ("NONE",), (None,), (("none",),),
                      ("none", ()), ("give",), ("give", (), ()), ("each", "x", "r"), ("each", "x", "r", NONE, NONE),
                      ("choice", NONE), ("choice", NONE, NONE, NONE), ("when", ("alike", atom(1), atom(1))),
                      ("last", "v", atom(1)), ("last", "v", NONE), ("alike", atom(1), atom(1)), ("name", "x"),
                      ("nothing",), ("or", NONE, NONE), ([],), ({},)):
            self.fault((), thing)
            self.fault((1,), ("choice", thing, None))
            self.fault((2,), ("choice", NONE, thing))
            self.fault((3,), each("x", "r", thing))
            self.fault((2,), when(thing, atom(1), atom(2)))
            self.fault((3, 3), each("x", "r", last("v", X, thing)))

    def test_names(self):
        for good in ("x", "abcdefgh", "or", "main", "zzz"):
            self.right(each(good, good, last(good, ("name", good), NONE)))
        for bad in ("", "abcdefghi", "X", "x1", "a b", "list", "to", "is", None, True, 0, ["x"], ("x",), {}, ("name",
                                                                                                              "x"),
                    PROGRAM):
            self.fault((1,), each(bad, "r", None))
            self.fault((2,), each("x", bad, None))
            self.fault((1,), last(bad, None, None))
            self.fault((3, 1), each("x", "r", each(bad, bad, None)))
        for word in bare.WORDS:
            self.fault((1,), each(word, "r", NONE))
            self.fault((2,), each("x", word, NONE))
            self.fault((1,), last(word, atom(1), NONE))

    def test_names_given_twice(self):
        self.fault((3, 1), each("x", "r", each("x", "s", NONE)))
        self.fault((3, 3, 2, 1), each("x", "r", each("y", "r", when(each("x", "r", NONE)))))
        self.right(("choice", each("x", "r", GIVE), each("x", "s", GIVE)))
        self.right(each("y", "r", ("choice", each("x", "r", GIVE), each("x", "s", each("z", "r", GIVE)))))

    def test_items(self):
        for good in (X, atom(0), atom(-1), atom(10 ** 60), atom(""), atom("it's {so}~"), atom("a" * 20)):
            self.right(each("x", "r", ("give", (good,))))
            self.right(each("x", "r", when(NONE, good, good)))
            self.right(each("x", "r", last("v", good, NONE)))
        for bad in (None, True, 1, "x", (), [], {}, ("name",), ("name", "y"), ("name", "x", "x"), ("name", None),
                    ("name", 1), ("name", ["x"]), ("name", {}), ("atom",), ("atom", 1, 1), ("atom", None), ("atom",
                                                                                                            True),
                    ("atom", False), ("atom", "a" * 21), ("atom", "5 %"), ("atom", "\n"), ("atom", "\u00e9"),
                    ("atom", "\x7f"), ("atom", (1,)), ("atom", [1]), ("atom", {}), ("text", "x"), (None, "x"), (True,
                                                                                                                1),
                    (X, X), ("name", PROGRAM), ("atom", PROGRAM), "ab", ["name", "r"]):
            for many in range(3):
                shown = (X,) * many + (bad,) + (None,) * (2 - many)
                self.fault((3, 1, many), each("x", "r", ("give", shown)))
            self.fault((3, 1, 1), each("x", "r", when(None, bad, bad)))
            self.fault((3, 1, 2), each("x", "r", when(None, X, bad)))
            self.fault((3, 2), each("x", "r", last("v", bad, None)))

    def test_names_that_are_not_given(self):
        self.fault((1, 0), ("give", (X,)))
        self.fault((2, 1, 0), ("choice", each("x", "r", GIVE), ("give", (X,))))
        self.fault((3, 1, 0), each("r", "x", ("give", (X,))))
        self.fault((3, 2), each("x", "r", last("v", ("name", "v"), NONE)))
        self.fault((3, 3, 1, 0), each("x", "r", last("v", X, ("give", (("name", "v"),)))))

    def test_the_items_of_a_give(self):
        for bad in (None, True, 3, "abc", {}, (None,) * 4, (X, X, X, X), PROGRAM):
            self.fault((3, 1), each("x", "r", ("give", bad)))
        self.fault((1, 0), ("give", ("name", "x")))

    def test_tests(self):
        for bad in (None, True, 0, "alike", (), {}, ("alike",), ("alike", X), ("alike", X, X, X), ("same", X, X),
                    (None, X, X), (["alike"], X, X), ("alike", None), ("none",), PROGRAM):
            self.fault((3, 1), each("x", "r", ("when", bad, None)))

    def test_the_first_of_two(self):
        self.fault((1, 1, 0), ("choice", ("give", (X,)), None))
        self.fault((1, 3, 1, 1), ("choice", each("x", "r", ("give", (X, Y))), ("give", (X,))))
        self.fault((2,), ("choice", each("x", "r", ("give", (X,))), None))
        self.fault((), ("choice", ("give", (X,)), None, None))
        self.fault((1,), ("when", None, None))
        self.fault((1, 2), ("when", ("alike", atom(1), X), ("give", (X,))))
        self.fault((2,), each("x", 5, None))
        self.fault((1,), last("", X, None))

    def test_junk_at_each_place(self):
        chance = random.Random(5)
        drawer = bare.Drawer(7, atoms=(1, "1"), lasts=True)
        for _ in range(2500):
            thing = drawer.drawn(5)
            for _ in range(chance.choice([1, 1, 2])):
                thing = self.spoiled(thing, chance)
            given = chance.choice([thing, listed(thing), mixed(thing)])
            self.assertEqual(bare.fault(thing), open_fault(given), thing)

    def spoiled(self, thing, chance):
        if not isinstance(thing, tuple) or not thing or chance.random() < 0.2:
            return chance.choice(JUNK)
        index = chance.randrange(len(thing))
        luck = chance.random()
        if luck < 0.05:
            return thing[:index] + thing[index + 1:]
        if luck < 0.1:
            return thing[:index] + (chance.choice(JUNK),) + thing[index:]
        return thing[:index] + (self.spoiled(thing[index], chance),) + thing[index + 1:]


class Bounds(unittest.TestCase):
    def bound(self, reached, passed, worse=None):
        """The one is right, the other one passes a bound; another fault beside it goes ahead, where there is one."""
        for given in (reached, listed(reached)):
            self.assertIsNone(open_fault(given))
            self.assertTrue(is_open(given))
        for given in (passed, listed(passed)):
            self.assertEqual((), open_fault(given))
            self.assertFalse(is_open(given))
            self.assertEqual((), raised(self, NoOpen, written, given).spot)
        if worse is not None:
            self.assertNotEqual((), open_fault(worse))
            self.assertIsNotNone(open_fault(worse))
            self.assertEqual(bare.fault(worse), open_fault(worse))

    def test_parts(self):
        self.bound(("choice", choices(*[GIVE] * 18), each("x", "r", each("y", "r", when(NONE)))), choices(*[GIVE] * 21),
                   choices(*[GIVE] * 20 + [("give", (X,))]))
        self.bound(when(choices(*[GIVE] * 20), atom(1), atom(1)), when(when(choices(*[GIVE] * 20), atom(1), atom(1)),
                                                                      atom(1), atom(1)),
                   when(when(choices(*[GIVE] * 19 + [("give", None)]), atom(1), atom(1)), atom(1), atom(1)))

    def test_depth(self):
        def deep(times, inner):
            for _ in range(times):
                inner = when(inner, atom(1), atom(1))
            return inner
        for inner in (GIVE, NONE):
            self.bound(deep(11, inner), deep(12, inner), deep(12, ("give", (X,))))
            self.bound(("choice", NONE, deep(10, inner)), ("choice", NONE, deep(11, inner)),
                       ("choice", NONE, deep(11, each("x", "list", NONE))))
        self.assertEqual((2,) * 15 + (1, 0), open_fault(deep(15, ("give", (X,)))))
        self.assertEqual((), open_fault(deep(18, GIVE)))

    def test_names_given_around_a_part(self):
        three = each("x", "r", each("y", "r", each("z", "r", GIVE)))
        self.bound(three, each("w", "r", three), each("w", "r", ("choice", three, None)))
        self.bound(three, each("w", "r", each("x", "r", each("y", "r", each("z", "r", NONE)))))
        self.bound(choices(three, each("a", "r", each("b", "r", each("c", "r", NONE)))),
                   choices(three, each("a", "r", each("b", "r", each("c", "r", each("d", "r", NONE))))))

    def test_row_names(self):
        rows = [each("x", row, GIVE) for row in "rstu"]
        self.bound(choices(*rows[:3]), choices(*rows), choices(*rows, None))
        self.bound(choices(*rows[:3], *rows[:3]), choices(*rows[:3], *rows))

    def test_variables(self):
        lasts = [last(variable, atom(1), NONE) for variable in "tuvw"]
        self.bound(choices(*lasts[:3]), choices(*lasts), choices(*lasts, each("x", "r", each("x", "r", NONE))))
        self.bound(choices(*lasts[:3], *lasts[:3]), choices(*lasts[:3], *lasts))

    def test_names_variables_and_rows_are_counted_apart(self):
        self.assertTrue(is_open(each("a", "b", each("c", "d", each("e", "f", last("g", X[:1] + ("a",), last(
            "h", atom(1), last("i", atom(2), GIVE))))))))

    def test_what_is_wide(self):
        self.assertEqual((1,), open_fault(("give", [X] * 40000)))
        self.assertEqual((), open_fault([X] * 40000))
        self.assertEqual((), open_fault(choices(*[GIVE] * 8000)))
        self.assertEqual((1, 0), open_fault(("give", [("atom", "a" * 50000)])))


class Within(unittest.TestCase):
    THING = each("y", "s", choices(
        each("x", "r", when(("give", (X, atom("b"), atom(10))), Y, atom(9), "unlike")), NONE,
        last("w", atom(-3), last("v", Y, each("b", "s", each("a", "q", ("give", (atom("9"), atom(9))))))), GIVE))

    def test_names(self):
        self.assertEqual(["a", "b", "x", "y"], given_names(self.THING))
        self.assertEqual(["q", "r", "s"], row_names(self.THING))
        self.assertEqual(["v", "w"], variables(self.THING))
        for thing in (NONE, GIVE, when(GIVE, atom(1), atom(1))):
            self.assertEqual([[], [], []], [given_names(thing), row_names(thing), variables(thing)])
        self.assertEqual(["x"], given_names(each("x", "r", NONE)))

    def test_written(self):
        self.assertEqual([-3, 9, 10, "9", "b"], written(self.THING))
        self.assertEqual([], written(each("x", "r", when(("give", (X,))))))
        self.assertEqual([0, 2, 11, "", "0", "11", "2", "Z", "a"],
                         written(("choice", ("give", tuple(atom(one) for one in ("a", 11, "2"))), choices(
                             ("give", tuple(atom(one) for one in ("Z", 2, "11"))),
                             when(last("v", atom("0"), NONE), atom(0), atom("a"), "alike"), ("give", (atom(""),))))))
        self.assertEqual([1, "1"], written(when(("give", (atom("1"), atom(1), atom(1))), atom("1"), atom(1))))

    def test_most_names_and_ways(self):
        self.assertEqual((3, 3), (most_names(self.THING), ways(self.THING)))
        for thing, most, many in ((NONE, 0, 0), (GIVE, 0, 1), (each("x", "r", NONE), 1, 0),
                                  (each("x", "r", each("y", "r", each("z", "r", NONE))), 3, 0),
                                  (choices(each("x", "r", GIVE), each("y", "r", each("x", "r", GIVE)), GIVE), 2, 3),
                                  (choices(*[GIVE] * 20), 0, 20)):
            self.assertEqual((most, many), (most_names(thing), ways(thing)))

    def test_parts(self):
        for place, part, _ in bare.parts(self.THING):
            for given in (place, list(place)):
                for thing in (self.THING, listed(self.THING)):
                    found = open_part(expression=thing, place=given)
                    self.assertEqual(part, found)
                    self.assertTrue(is_frozen(found))

    def test_places_of_no_part(self):
        thing = each("x", "r", ("choice", when(("give", (X,)), X, X), last("v", X, NONE)))
        for place in (None, True, 0, 3, "3", "", {}, {3: 1}, PROGRAM, (0,), (1,), (2,), (4,), (-1,), (3, 0), (3, 3),
                      (3, -1), (3, 1, 1), (3, 1, 0), (3, 1, 2, 1), (3, 1, 2, 1, 0), (3, 1, 1, 1), (3, 2, 2), (3, 2, 1),
                      (3, 2, 3, 0), (3, True), (True,), (3, "1"), (3, None), (3, (1,)), [3, [1]], (3, 1, 2, 0),
                      (10 ** 30,), (3, {})):
            error = raised(self, NoPlace, open_part, thing, place)
            self.assertEqual(repr(place), repr(error.path))
        raised(self, NoOpen, open_part, None, None)

    def test_drawn_ones(self):
        for seed in range(200):
            thing = bare.Drawer(seed, atoms=(3, "3", "a", -1), lasts=True).drawn(7)
            found = list(bare.parts(thing))
            self.assertEqual([part for _, part, _ in found], [open_part(thing, place) for place, _, _ in found])
            self.assertEqual(bare.most(thing), most_names(thing))
            self.assertEqual(sum(part[0] == "give" for _, part, _ in found), ways(thing))
            self.assertEqual(bare.rows_of(thing), row_names(thing))
            self.assertEqual(sorted({part[1] for _, part, _ in found if part[0] == "each"}), given_names(thing))
            self.assertEqual(sorted({part[1] for _, part, _ in found if part[0] == "last"}), variables(thing))
            order = sorted(bare.atoms_in(thing), key=lambda one: (1, 0, one) if isinstance(one, str) else (0, one, ""))
            self.assertEqual(repr(order), repr(written(thing)))


class Interface(unittest.TestCase):
    def test_names_and_arguments(self):
        for name, arguments in (("open_fault", "thing"), ("is_open", "thing"), ("given_names", "expression"),
                                ("row_names", "expression"), ("variables", "expression"), ("written", "expression"),
                                ("most_names", "expression"), ("ways", "expression"),
                                ("open_part", "expression place")):
            work = getattr(opens, name)
            self.assertEqual(arguments.split(), list(inspect.signature(work).parameters))
            self.assertEqual("triedagain.opens", work.__module__)

    def test_kinds_of_values(self):
        thing = listed(Within.THING)
        for work, kind in ((is_open, bool), (given_names, list), (row_names, list), (variables, list), (written, list),
                           (most_names, int), (ways, int)):
            self.assertIs(kind, work(thing).__class__)
        self.assertEqual(listed(Within.THING), thing)
        for work in (given_names, row_names, variables, written):
            work(thing).append("more")
            self.assertNotIn("more", work(thing))


if __name__ == "__main__":
    unittest.main()
