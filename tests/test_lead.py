"""[41] to [43] and [48]: environments, leading, relations and qualities, striking out and parting."""

import inspect
import random
import unittest

from triedagain import openlead
from triedagain.errors import NoAtoms, NoEnvironment, NoOpen, NoRelation
from triedagain.openlead import (
    QUALITIES, RELATIONS, atoms_of, has, is_parting, led, parting, relates, row_of, struck)
from triedagain.opens import row_names
from triedagain.programs import Program
from tests import bare
from tests.samples import is_frozen, listed, mixed, raised
from tests.test_opens import GIVE, NONE, X, Y, Z, atom, choices, each, last, when

PROGRAM = Program([("main", (), ())])
SIXTEEN = list(range(16))
ONE = each("x", "r", ("give", (X,)))
TWO = each("x", "r", each("y", "s", ("give", (X, Y))))
# What is no row of an environment.
NO_ROWS = (None, True, 0, "", "ab", {}, {1: 1}, PROGRAM, [True], [None], [[1]], [(1,)], [{}], ["a" * 21], ["5 %"],
           ["\n"],
           [1, 1], ["a", "b", "a"], SIXTEEN + [16], [1, False], [0, False], [PROGRAM])
NO_WORDS = (None, True, 0, "", "Same", "same ", "sets", [], ["same"], ("same",), {}, {"same": 1}, PROGRAM)


def environment(chance, names, longest=4, atoms=(0, 1, 2, 3, "0", "1", "a", "")):
    return {name: chance.sample(atoms, chance.randrange(longest + 1)) for name in names}


class Environments(unittest.TestCase):
    WORKS = (lambda env: row_of(ONE, env), lambda env: led(ONE, env), lambda env: relates("same", ONE, ONE, env),
             lambda env: has("once", ONE, env), lambda env: parting(ONE, ONE, env),
             lambda env: is_parting(ONE, ONE, env, None))

    def test_rows_that_are_none(self):
        for work in self.WORKS:
            for row in NO_ROWS:
                self.assertEqual("r", raised(self, NoEnvironment, work, {"r": row, "s": [1]}).name)

    def test_what_is_no_dict(self):
        for work in self.WORKS:
            for env in (None, True, 0, "r", [], ["r"], (), [("r", [1])], PROGRAM):
                self.assertEqual("", raised(self, NoEnvironment, work, env).name)
            for env in ({}, {"R": [1]}, {"s": [1]}, {0: [1]}, {("r",): [1]}, {None: None}):
                self.assertEqual("r", raised(self, NoEnvironment, work, env).name)

    def test_the_least_name_is_told(self):
        thing = each("x", "t", each("y", "b", each("z", "r", GIVE)))
        for env, name in (({}, "b"), ({"b": []}, "r"), ({"b": [], "r": []}, "t"), ({"t": None, "r": [], "b": []}, "t"),
                          ({"t": None, "r": None, "b": []}, "r"), ({"t": [], "r": [], "b": [1, 1]}, "b")):
            self.assertEqual(name, raised(self, NoEnvironment, row_of, thing, env).name)
        for first, second in ((ONE, each("x", "a", NONE)), (each("x", "a", NONE), ONE)):
            self.assertEqual("a", raised(self, NoEnvironment, relates, "same", first, second, {}).name)
            self.assertEqual("r", raised(self, NoEnvironment, parting, first, second, {"a": []}).name)
            self.assertEqual("a", raised(self, NoEnvironment, is_parting, first, second, {"r": [1]}, 1).name)
        self.assertEqual("", raised(self, NoEnvironment, relates, "set", NONE, NONE, []).name)

    def test_sixteen_atoms_and_other_keys(self):
        for env in ({"r": SIXTEEN}, {"r": tuple(SIXTEEN)}, {"r": SIXTEEN, "s": None, 0: 1, None: [1, 1], "R": "",
                                                            (): ()}):
            self.assertEqual(16, len(row_of(ONE, env)))
        self.assertEqual([((), ())], row_of(GIVE, {"r": None}))

    def test_atoms_that_look_alike(self):
        env = {"r": [1, "1", -1, "", 10 ** 40, "it's"]}
        self.assertEqual([((one,), (("x", one),)) for one in env["r"]], row_of(ONE, env))

    def test_the_number_of_atoms(self):
        for env, many in (({}, 0), ({"r": []}, 0), ({"r": [1, "1"], "s": ("1", 2)}, 3), ({"r": SIXTEEN, "s": [3]}, 16)):
            self.assertEqual(many, atoms_of(env))
            self.assertEqual(many, atoms_of(environment=env))


class Leading(unittest.TestCase):
    def test_each_word(self):
        env = {"r": [3, "b"], "s": [], "t": [3]}
        for thing, worths in ((NONE, []), (GIVE, [()]), (ONE, [(3,), ("b",)]), (each("x", "s", GIVE), []),
                              (("choice", ONE, ("give", (atom(1), atom(1)))), [(3,), ("b",), (1, 1)]),
                              (each("x", "r", when(("give", (X,)), X, atom("b"))), [("b",)]),
                              (each("x", "r", when(("give", (X,)), X, atom("b"), "unlike")), [(3,)]),
                              (last("v", atom(1), GIVE), [()]), (when(GIVE, atom(1), atom("1")), []),
                              (when(GIVE, atom(1), atom("1"), "unlike"), [()]),
                              (each("x", "r", each("y", "t", ("give", (Y, X, Y)))), [(3, 3, 3), (3, "b", 3)])):
            for given in (thing, listed(thing), mixed(thing)):
                self.assertEqual(worths, [worth for worth, _ in row_of(expression=given, environment=env)])

    def test_names_in_results_ascend(self):
        thing = each("z", "r", each("a", "s", ("give", ())))
        awaited = [((), (("a", 7), ("z", 1))), ((), (("a", "b"), ("z", 1)))]
        self.assertEqual(awaited, row_of(thing, {"r": [1], "s": [7, "b"]}))

    def test_the_order_of_rows(self):
        env = {"r": [2, 1], "s": [3, 4]}
        self.assertEqual([(2, 3), (2, 4), (1, 3), (1, 4)], [worth for worth, _ in row_of(TWO, env)])

    def test_what_lasts(self):
        env = {"r": [2, 1], "s": []}
        for thing, lasting in ((NONE, {}), (last("v", atom("a"), NONE), {"v": "a"}),
                               (each("x", "r", last("v", X, NONE)), {"v": 1}),
                               (each("x", "s", last("v", X, GIVE)), {}),
                               (each("x", "r", when(last("v", X, NONE), X, atom(2))), {"v": 2}),
                               (each("x", "r", when(last("v", X, NONE), X, atom(3))), {}),
                               (("choice", last("v", atom(1), GIVE), last("v", atom(2), GIVE)), {"v": 2}),
                               (last("v", atom(1), last("v", atom(2), last("w", atom(3), NONE))), {"v": 2, "w": 3}),
                               (each("x", "r", ("choice", last("v", X, NONE), when(last("w", X, NONE), X, atom(2)))),
                                {"v": 1, "w": 2})):
            self.assertEqual((row_of(thing, env), lasting), led(expression=thing, environment=env))

    def test_drawn_ones(self):
        for seed in range(400):
            drawer = bare.Drawer(seed, atoms=(0, "0", "a"), lasts=True)
            thing = drawer.drawn(7)
            env = environment(drawer.chance, "rst")
            awaited = {}
            row = bare.lead(thing, env, lasting=awaited)
            found, lasting = led(mixed(thing), env)
            self.assertEqual((row, awaited), (found, lasting))
            self.assertEqual((repr(row), repr(awaited)), (repr(found), repr(lasting)))
            self.assertTrue(all(is_frozen(result) for result in found))
            self.assertEqual(row, row_of(thing, env))

    def test_great_ones(self):
        thing = each("x", "r", each("y", "r", each("z", "r", choices(*[("give", (X, Y, Z))] * 16))))
        self.assertEqual(16 ** 4, len(row_of(thing, {"r": SIXTEEN})))

    def test_errors(self):
        for work in (row_of, led):
            self.assertEqual((1,), raised(self, NoOpen, work, ("choice", None, None), None).spot)
            raised(self, NoEnvironment, work, ONE, None)

    def test_what_is_handed_in_is_not_changed(self):
        thing, env = listed(last("v", atom(1), TWO)), {"r": [1, 2], "s": ["a"]}
        row, lasting = led(thing, env)
        row.clear()
        lasting.clear()
        self.assertEqual((listed(last("v", atom(1), TWO)), {"r": [1, 2], "s": ["a"]}), (thing, env))
        self.assertEqual((2, {"v": 1}), (len(led(thing, env)[0]), led(thing, env)[1]))


class Relations(unittest.TestCase):
    def test_the_words(self):
        self.assertEqual(("same", "begins", "bag", "set", "within"), RELATIONS)
        self.assertEqual(("empty", "single", "once"), QUALITIES)

    def relates(self, first, second, env, *words):
        """Just these words hold."""
        for word in RELATIONS:
            told = relates(word=word, first=listed(first), second=mixed(second), environment=env)
            self.assertIs(word in words, told, (word, first, second))

    def has(self, first, env, *words):
        for word in QUALITIES:
            self.assertIs(word in words, has(word=word, first=mixed(first), environment=env), (word, first))

    def test_each_relation(self):
        a, b = ("give", (atom(1),)), ("give", (atom("1"),))
        env = {}
        self.relates(NONE, NONE, env, *RELATIONS)
        self.relates(a, a, env, *RELATIONS)
        self.relates(a, b, env)
        self.relates(NONE, a, env, "begins", "within")
        self.relates(a, NONE, env)
        self.relates(a, choices(a, a), env, "begins", "set", "within")
        self.relates(choices(a, a), a, env, "set", "within")
        self.relates(a, choices(a, b), env, "begins", "within")
        self.relates(b, choices(a, b), env, "within")
        self.relates(choices(a, b), b, env)
        self.relates(choices(a, b), choices(b, a), env, "bag", "set", "within")
        self.relates(choices(a, b, a), choices(b, a, a, b), env, "set", "within")
        self.relates(choices(a, b, a), choices(a, b, a, b), env, "begins", "set", "within")
        self.relates(choices(a, b, a), choices(a, b, b), env, "set", "within")

    def test_results_are_unlike_by_names_alone(self):
        x, y = each("x", "r", GIVE), each("y", "r", GIVE)
        self.relates(x, y, {"r": [1]})
        self.relates(x, y, {"r": []}, *RELATIONS)
        self.relates(x, each("x", "s", GIVE), {"r": [1, 2], "s": [1, 2]}, *RELATIONS)
        self.relates(x, each("x", "s", GIVE), {"r": [1, 2], "s": [2, 1]}, "bag", "set", "within")
        self.relates(GIVE, x, {"r": [1]})

    def test_each_quality(self):
        a = ("give", (atom(1),))
        self.has(NONE, {}, *QUALITIES)
        self.has(a, {}, "single", "once")
        self.has(choices(a, GIVE), {}, "once")
        self.has(choices(a, a), {})
        self.has(ONE, {"r": []}, *QUALITIES)
        self.has(ONE, {"r": [1]}, "single", "once")
        self.has(ONE, {"r": [1, "1"]}, "once")
        self.has(choices(ONE, ONE), {"r": [1]})

    def test_drawn_ones(self):
        for seed in range(300):
            drawer = bare.Drawer(seed, names="xy", rows="rs", atoms=(0, "0"), lasts=True)
            first = drawer.drawn(6)
            second = drawer.near(first) if seed % 4 else drawer.drawn(6)
            for _ in range(3):
                env = environment(drawer.chance, "rs", 3)
                row, other = bare.lead(first, env), bare.lead(second, env)
                self.relates(first, second, env, *[word for word in RELATIONS if bare.RELATES[word](row, other)])
                self.has(first, env, *[word for word in QUALITIES if bare.HAS[word](row)])

    def test_the_order_of_the_errors(self):
        for word in NO_WORDS + QUALITIES:
            self.assertEqual(repr(word), repr(raised(self, NoRelation, relates, word, None, None, None).word))
        for word in NO_WORDS + RELATIONS:
            self.assertEqual(repr(word), repr(raised(self, NoRelation, has, word, None, None).word))
        for word in RELATIONS:
            self.assertEqual((1,), raised(self, NoOpen, relates, word, ("choice", 0, 0), None, None).spot)
            self.assertEqual((2,), raised(self, NoOpen, relates, word, ONE, ("choice", NONE, 0), None).spot)
            self.assertEqual("", raised(self, NoEnvironment, relates, word, ONE, ONE, None).name)
        for word in QUALITIES:
            self.assertEqual((1,), raised(self, NoOpen, has, word, ("choice", 0, 0), None).spot)
            self.assertEqual("r", raised(self, NoEnvironment, has, word, ONE, {"r": 5}).name)


class Striking(unittest.TestCase):
    def test_atoms_are_left(self):
        env = {"r": [1, "1", 2, "a"], "lists": [], "q": ("a", 1)}
        for atoms, awaited in (([], {"r": [], "lists": [], "q": []}), (["a", 1, 1, 7], {"r": [1, "a"], "lists": [],
                                                                                        "q": ["a", 1]}),
                               (("1",), {"r": ["1"], "lists": [], "q": []})):
            found = struck(environment=env, atoms=atoms)
            self.assertEqual(awaited, found)
            self.assertTrue(all(row.__class__ is list for row in found.values()))
        self.assertEqual({"r": [1, "1", 2, "a"], "lists": [], "q": ("a", 1)}, env)
        self.assertEqual({}, struck({}, [1]))
        self.assertEqual({"r": [3]}, struck({"r": SIXTEEN}, [3] * 1000))
        found = struck(env, [1])
        found["r"].append(5)
        self.assertEqual([1], struck(env, [1])["r"])

    def test_errors(self):
        for env in (None, True, 0, "", [], (), [("r", [1])], {"R": []}, {"list": []}, {"": []}, {0: []}, {None: []},
                    {("r",): []}, {True: []}, {"r": [1], "abcdefghi": []}, PROGRAM):
            self.assertEqual("", raised(self, NoEnvironment, struck, env, None).name)
        for row in NO_ROWS:
            self.assertEqual("", raised(self, NoEnvironment, struck, {"a": [], "r": row}, None).name)
        for atoms in (None, True, 0, "a", "", {}, {1: 1}, [True], [1, False], [None], [[1]], ["a" * 21], ["5 %"],
                      [PROGRAM],
                      [1, (2,)], PROGRAM):
            self.assertEqual(repr(atoms), repr(raised(self, NoAtoms, struck, {"r": [1]}, atoms).atoms))

    def test_just_those_results_are_left(self):
        for seed in range(150):
            drawer = bare.Drawer(seed, atoms=(0, "a"))
            thing = drawer.drawn(6)
            env = environment(drawer.chance, "rst")
            atoms = drawer.chance.sample([0, 1, 2, "a", ""], 3)
            row = [result for result in row_of(thing, env) if all(one in atoms for _, one in result[1])]
            self.assertEqual(row, row_of(thing, struck(env, atoms)))


class Parting(unittest.TestCase):
    def right(self, first, second, env, thing):
        """What [48] says of a parting, told another way."""
        row, other = bare.lead(first, env), bare.lead(second, env)
        if not 1 <= len(thing) <= 2 or len(thing) == 2 and thing[0] == thing[1]:
            return False
        if not all(one in row + other for one in thing):
            return False
        return [one for one in row if one in thing] != [one for one in other if one in thing]

    def test_drawn_ones(self):
        parted = 0
        for seed in range(300):
            drawer = bare.Drawer(seed, names="xy", rows="rs", atoms=(0, "0"))
            first = drawer.drawn(6)
            second = drawer.near(first)
            env = environment(drawer.chance, "rs", 3)
            row, other = bare.lead(first, env), bare.lead(second, env)
            found = parting(first=listed(first), second=second, environment=env)
            self.assertEqual(row == other, found is None)
            if found is not None:
                parted += 1
                self.assertIs(tuple, found.__class__)
                self.assertTrue(self.right(first, second, env, found))
                self.assertTrue(is_parting(first=first, second=second, environment=env, thing=found))
                self.assertTrue(is_parting(first, second, env, listed(found)))
            results = list(dict.fromkeys(row + other))[:6]
            for thing in [[one] for one in results] + [[one, two] for one in results for two in results]:
                self.assertIs(self.right(first, second, env, thing), is_parting(first, second, env, mixed(thing)))
        self.assertGreater(parted, 25)

    def test_one_only_if_it_does_not_come_equally_often(self):
        a, b = ("give", (atom(1),)), ("give", (atom(2),))
        one, two = ((1,), ()), ((2,), ())
        self.assertFalse(is_parting(choices(a, b), choices(b, a), {}, [one]))
        self.assertTrue(is_parting(choices(a, b), choices(b, a), {}, [one, two]))
        self.assertTrue(is_parting(choices(a, b), choices(b, a), {}, (two, one)))
        self.assertTrue(is_parting(choices(a, b), a, {}, [two]))
        self.assertFalse(is_parting(choices(a, b), a, {}, [one]))
        self.assertEqual((two,), parting(choices(a, b), a, {}))
        self.assertEqual((two,), parting(a, choices(a, b), {}))

    def test_what_is_none(self):
        a, b = ("give", (atom(1),)), ("give", (atom(0), atom(1)))
        one, two = ((1,), ()), ((0, 1), ())
        first, second = choices(a, b), choices(b, a)
        self.assertTrue(is_parting(first, second, {}, [one, two]))
        for thing in (None, True, 0, "", "ab", [], (), {}, {0: one}, [one], [two], [one, one], [one, two, one], [[],
                                                                                                                 two],
                      [None, two], [one, two, ((5,), ())], [one, ((5,), ())], [((True,), ()), two], [one, ((False, 1),
                                                                                                           ())],
                      [one, ((0, True), ())], [(("1",), ()), two], [(1, ()), two], [((1,),), two], [((1,), (), ()),
                                                                                                    two],
                      [((1,), None), two], [((1,), {}), two], [({1: 1}, ()), two], [((1,), ("x",)), two], one, [[one,
                                                                                                                 two]],
                      [((1,), (("x", 1),)), two], [((1,), ((1, 1),)), two], PROGRAM, [PROGRAM, two], [((1, {}), ()),
                                                                                                      two],
                      [((1, [1]), ()), two]):
            self.assertIs(False, is_parting(first, second, {}, thing), thing)
        env = {"r": [1, 2]}
        result = ((1,), (("x", 1),))
        self.assertTrue(is_parting(ONE, NONE, env, [result]))
        for thing in ([((1,), (("x", True),))], [((1,), (("y", 1),))], [((1,), (("x", 1), ("x", 1)))], [((1,), ())],
                      [((1,), (("x", 1, 1),))], [((1,), ((["x"], 1),))], [((1,), (("x", [1]),))], [((2,), (("x",
                                                                                                            1),))]):
            self.assertIs(False, is_parting(ONE, NONE, env, thing))
        self.assertIs(False, is_parting(ONE, ONE, env, [result]))
        self.assertIsNone(parting(ONE, ONE, env))
        for pair in ({}, {0: "x", 1: 1}, ("x",), (), "x1", ({}, 1), ("x", {}), (["x"], 1), ("list", 1), PROGRAM):
            self.assertIs(False, is_parting(ONE, NONE, env, [((1,), (pair,))]))

    def test_three_results_or_one_that_comes_nowhere(self):
        a, b, c = [("give", (atom(number),)) for number in (1, 2, 3)]
        one, two, three = [((number,), ()) for number in (1, 2, 3)]
        self.assertIs(True, is_parting(choices(a, b, c), choices(c, b, a), {}, [one, three]))
        self.assertIs(False, is_parting(choices(a, b, c), choices(c, b, a), {}, [one, two, three]))
        self.assertIs(True, is_parting(a, NONE, {}, [one]))
        for other in (two, ((), ()), ((1,), (("x", 1),))):
            self.assertIs(False, is_parting(a, NONE, {}, [one, other]))
            self.assertIs(False, is_parting(a, NONE, {}, [other, one]))

    def test_the_order_of_the_errors(self):
        for work, more in ((parting, ()), (is_parting, (None,))):
            self.assertEqual((1,), raised(self, NoOpen, work, ("choice", 0, 0), None, None, *more).spot)
            self.assertEqual((2,), raised(self, NoOpen, work, ONE, ("choice", NONE, 0), None, *more).spot)
            self.assertEqual("", raised(self, NoEnvironment, work, ONE, ONE, None, *more).name)
            self.assertEqual("q", raised(self, NoEnvironment, work, ONE, each("x", "q", NONE), {"r": 1}, *more).name)

    def test_great_ones(self):
        thing = each("x", "r", each("y", "r", each("z", "r", ("give", (X, Y, Z)))))
        other = each("x", "r", each("z", "r", each("y", "r", ("give", (X, Y, Z)))))
        env = {"r": SIXTEEN}
        found = parting(thing, other, env)
        self.assertEqual(2, len(found))
        self.assertTrue(is_parting(thing, other, env, found))


class Interface(unittest.TestCase):
    def test_names_and_arguments(self):
        for name, arguments in (("atoms_of", "environment"), ("row_of", "expression environment"),
                                ("led", "expression environment"), ("relates", "word first second environment"),
                                ("has", "word first environment"), ("struck", "environment atoms"),
                                ("parting", "first second environment"), ("is_parting",
                                                                          "first second environment thing")):
            work = getattr(openlead, name)
            self.assertEqual(arguments.split(), list(inspect.signature(work).parameters))
            self.assertEqual("triedagain.openlead", work.__module__)

    def test_kinds_of_values(self):
        env = {"r": [1], "s": [2]}
        for told, kind in ((row_of(TWO, env), list), (led(TWO, env), tuple), (led(TWO, env)[1], dict), (atoms_of(env),
                                                                                                        int),
                           (struck(env, []), dict), (parting(TWO, NONE, env), tuple), (row_names(TWO), list)):
            self.assertIs(kind, told.__class__)
        self.assertEqual([(((1, 2)), (("x", 1), ("y", 2)))], row_of(TWO, env))


if __name__ == "__main__":
    unittest.main()
