"""[54]: the bridge from open expressions to programs."""

import inspect
import itertools
import unittest

from triedagain import bridge
from triedagain.bridge import bridged
from triedagain.compiling import compiled, shortened
from triedagain.errors import NoBridge, NoEnvironment, NoOpen
from triedagain.machine import MachineRun
from triedagain.programs import Program, is_expression, walk
from triedagain.runs import Run
from tests import bare
from tests.plain import Plain
from tests.samples import is_frozen, listed, mixed, raised
from tests.test_lead import NO_ROWS, PROGRAM
from tests.test_opens import GIVE, NONE, X, Y, Z, atom, choices, each, last, when

FOUR = [1, "1", -999, "a" * 20]
THREE = each("x", "r", each("y", "s", each("z", "t", ("give", (X, Y, Z)))))


def depth(expression):
    return 1 + max(len(path) for path, _ in walk(expression))


def parts(thing):
    return len(list(bare.parts(thing)))


class Bridged(unittest.TestCase):
    def bridges(self, thing, env):
        """All that [54] says of the bridge."""
        found = bridged(expression=mixed(thing), environment=env)
        self.assertTrue(is_expression(found))
        self.assertTrue(is_frozen(found))
        self.assertLessEqual(depth(found), 7)
        self.assertLessEqual(len(list(walk(found))), 12 * parts(thing))
        program = Program([("main", (), (("out", found),))])
        awaited = [("list", list(worth)) for worth, _ in bare.lead(thing, env)]
        runs = [Run(program)]
        if len(awaited) < 40 or parts(thing) % 3 == 0:
            runs += [MachineRun(compiled(program)), MachineRun(shortened(compiled(program)))]
        for run in runs:
            for worth in awaited:
                self.assertEqual("gave", run.ask()[0])
                self.assertEqual(repr(worth), repr(run.worth()))
            self.assertEqual([("failed",), []], [run.ask(), run.said()])
        self.assertLessEqual(self.steps(program), 5000)
        return found

    def steps(self, program):
        """All steps that a run needs till it has failed, counted by the model."""
        plain = Plain([program.procedure("main")])
        steps = 0
        while plain.over is None:
            plain.ask()
            steps += plain.count
        return steps

    def test_each_word(self):
        env = {"r": FOUR, "s": [], "t": [2], "u": None}
        for thing in (NONE, GIVE, ("give", (atom(1), atom("1"), atom(""))), each("x", "r", ("give", (X,))),
                      each("x", "s", GIVE), ("choice", GIVE, NONE), ("choice", NONE, GIVE), when(GIVE, atom(1),
                                                                                                 atom("1")),
                      when(GIVE, atom(1), atom("1"), "unlike"), each("x", "r", when(("give", (X,)), X, atom(1))),
                      each("x", "r", when(("give", (X,)), X, atom("1"), "unlike")),
                      each("x", "r", each("y", "r", when(("give", (X, Y)), X, Y))), THREE,
                      each("x", "r", each("y", "t", ("choice", ("give", (X,)), ("give", (Y, X)))))):
            self.bridges(thing, env)

    def test_the_greatest(self):
        self.assertEqual(7, depth(self.bridges(THREE, {"r": FOUR, "s": FOUR, "t": FOUR})))
        same = each("x", "r", each("y", "r", each("z", "r", ("give", (X, Y, Z)))))
        self.bridges(same, {"r": FOUR})
        self.bridges(choices(*[("give", (atom(999), atom("b"), atom("c")))] * 8), {})
        inner = choices(*[("give", (X, X, X))] * 4)
        self.bridges(each("x", "r", inner), {"r": FOUR})
        self.bridges(choices(*[each("x", "r", ("choice", ("give", (X, X, X)), ("give", (X, X))))] * 2), {"r": FOUR})
        self.bridges(("choice", *[each("x", "r", each("y", "s", ("give", (Y, X, Y))))] * 2), {"r": FOUR, "s": FOUR})

    def test_drawn_ones(self):
        for seed in range(500):
            drawer = bare.Drawer(seed, atoms=(0, "0", "main") if seed % 2 else ())
            thing = drawer.drawn(4)
            env = {name: drawer.chance.sample([0, 1, "0", "a b", "{}", 999],
                                              drawer.chance.randrange(5)) for name in "rst"}
            self.bridges(thing, env)

    def test_all_small_ones(self):
        gives = [NONE, GIVE, ("give", (X,)), ("give", (Y, X))]
        for one, two in itertools.product(gives, repeat=2):
            for test in ("alike", "unlike"):
                thing = each("x", "r", each("y", "s", when(one, X, Y, test)))
                self.bridges(thing, {"r": [1, "1"], "s": ["1", 2, 1]})
            self.bridges(each("y", "s", each("x", "r", ("choice", one, two))), {"r": [1, "1"], "s": ["1", 2]})

    def test_names_that_are_names_of_procedures(self):
        thing = each("main", "r", each("f", "r", ("give", (("name", "f"), ("name", "main")))))
        found = bridged(thing, {"r": [1, 2]})
        program = Program([("main", (), (("out", found),)), ("f", ("x",), ())])
        run = Run(program)
        self.assertEqual(["[1, 1]", "[2, 1]", "[1, 2]", "[2, 2]"], [run.ask()[1] for _ in range(4)])

    def test_each_result_is_a_new_list(self):
        found = bridged(each("x", "r", ("give", ())), {"r": [1, 2]})
        body = (("give", "l", ("first", found)), ("every", found, ("put", ("name", "l"), ("number", 1))),
                ("out", ("name", "l")), ("out", found))
        run = Run(Program([("main", (), body)]))
        self.assertEqual(["[1, 1]", "[]", "[]"], [run.ask()[1] for _ in range(3)])
        changed = ("and", ("give", "l", found), ("put", ("name", "l"), ("number", 5)))
        run = Run(Program([("main", (), (("out", changed),))]))
        self.assertEqual(["[5]", "[5]"], [run.ask()[1] for _ in range(2)])

    def test_behind_it_no_name_is_given(self):
        found = bridged(THREE, {"r": [1], "s": [2, 3], "t": [4]})
        run = Run(Program([("main", (), (("every", found, ("nothing",)), ("out", ("list", (
            ("name", "x"), ("name", "y"), ("name", "z"))))))]))
        self.assertEqual(("gave", "[nothing, nothing, nothing]"), run.ask())


class Errors(unittest.TestCase):
    def no_bridge(self, thing, env):
        raised(self, NoBridge, bridged, thing, env)
        raised(self, NoBridge, bridged, listed(thing), env)

    def test_no_open_and_no_environment_go_ahead(self):
        self.assertEqual((1,), raised(self, NoOpen, bridged, ("choice", last("v", atom(1000), 5), NONE)[:2] + (
            NONE,), None).spot[:1])
        deep = each("x", "r", each("y", "r", each("z", "r", last("v", atom(1000), GIVE))))
        for env in (None, [], True, PROGRAM):
            self.assertEqual("", raised(self, NoEnvironment, bridged, deep, env).name)
        for row in NO_ROWS:
            self.assertEqual("r", raised(self, NoEnvironment, bridged, deep, {"r": row}).name)
        self.assertEqual("r", raised(self, NoEnvironment, bridged, deep, {}).name)
        self.no_bridge(deep, {"r": []})

    def test_a_last(self):
        self.no_bridge(last("v", atom(1), GIVE), {})
        self.no_bridge(("choice", GIVE, each("x", "r", last("v", X, NONE))), {"r": []})

    def test_depth(self):
        four = when(when(when(GIVE, atom(1), atom(1)), atom(1), atom(1)), atom(1), atom(1))
        self.assertTrue(is_expression(bridged(four, {})))
        self.no_bridge(when(four, atom(1), atom(1)), {})
        self.no_bridge(("choice", NONE, four), {})
        self.no_bridge(when(when(when(when(NONE, atom(1), atom(1)), atom(1), atom(1)), atom(1), atom(1)), atom(1),
                            atom(1)), {})

    def test_rows(self):
        thing = each("x", "r", each("y", "s", GIVE))
        for many in range(5):
            self.assertTrue(is_expression(bridged(thing, {"r": list(range(many)), "s": [], "t": list(range(9)),
                                                          5: None})))
        for many in (5, 6, 16):
            self.no_bridge(thing, {"r": list(range(many)), "s": []})
            self.no_bridge(thing, {"r": [], "s": tuple(range(many))})

    def test_atoms(self):
        one = each("x", "r", ("give", (X,)))
        for good in (-999, 999, 0, "", "a" * 20, "{}\"\\~", "1000", "it is"):
            for thing in (one, each("x", "r", ("give", (atom(good), X))), each("x", "r", when(GIVE, X, atom(good)))):
                self.assertTrue(is_expression(bridged(thing, {"r": [good], "s": [1000, "'"]})))
        for bad in (-1000, 1000, 10 ** 40, "'", "it's"):
            self.no_bridge(one, {"r": [1, bad]})
            self.no_bridge(each("x", "r", ("give", (X, atom(bad)))), {"r": []})
            self.no_bridge(each("x", "r", when(NONE, atom(bad), X)), {"r": []})
            self.no_bridge(when(GIVE, atom(1), atom(bad)), {})
            self.no_bridge(("choice", NONE, ("give", (atom(bad),))), {})


class Interface(unittest.TestCase):
    def test_names_and_arguments(self):
        self.assertEqual(["expression", "environment"], list(inspect.signature(bridged).parameters))
        self.assertEqual("triedagain.bridge", bridge.bridged.__module__)

    def test_what_is_handed_in_is_not_changed(self):
        thing, env = listed(THREE), {"r": [1], "s": (2,), "t": []}
        bridged(thing, env)
        self.assertEqual((listed(THREE), {"r": [1], "s": (2,), "t": []}), (thing, env))


if __name__ == "__main__":
    unittest.main()
