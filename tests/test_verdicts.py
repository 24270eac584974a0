"""[44] to [47]: what holds for all environments, compared with trying all environments of few atoms."""

import inspect
import random
import unittest

from triedagain import clashes
from triedagain import openverdicts as verdicts
from triedagain.errors import NoOpen, NoRelation, TooWide
from triedagain.openlead import QUALITIES, RELATIONS, atoms_of, has, relates
from triedagain.openverdicts import (
    against, against_has, always, always_has, enough, is_against, is_against_has, kinds)
from tests import bare
from tests.samples import listed, mixed, raised
from tests.test_lead import NO_ROWS, NO_WORDS, ONE, PROGRAM, SIXTEEN, TWO
from tests.test_opens import GIVE, NONE, X, Y, Z, atom, choices, each, when

THREE = each("x", "r", each("y", "s", each("z", "t", ("give", (X, Y, Z)))))
DOUBLED = ("same", "begins", "single")


def wide(many, *names):
    """An expression with so many written atoms, within eaches of these names."""
    gives = [("give", tuple(atom(one) for one in range(many)[at:at + 3])) for at in range(0, many, 3)]
    thing = choices(*gives) if gives else GIVE
    for name in names:
        thing = each(name, "r", thing)
    return thing


class Trying(unittest.TestCase):
    """Compares all verdicts with what all environments of few atoms tell."""

    def compare(self, first, second, longest=None):
        """If longest is less than enough atoms, only environments of so many are tried."""
        names = sorted(set(bare.rows_of(first) + bare.rows_of(second)))
        atoms = list(dict.fromkeys(bare.atoms_in(first) + bare.atoms_in(second)))
        full = 2 * max(bare.most(first), bare.most(second))
        longest = full if longest is None else min(longest, full)
        tried = [(rows, bare.lead(first, rows), bare.lead(second, rows))
                 for rows in bare.environments(names, atoms, longest)]
        tests = verdicts.test_set(first, second)
        self.assertLessEqual(len(tests), 11)
        for rows in tests:
            self.assertLessEqual(bare.many(rows), enough("same", first, second))
        for word in RELATIONS:
            breaking = [bare.many(rows) for rows, row, other in tried if not bare.RELATES[word](row, other)]
            found = against(word, listed(first), mixed(second))
            self.judged(breaking, found, names, longest == full or longest >= enough(word, first, second), (first,
                                                                                                            second))
            self.assertIs(found is None, always(word, first, second))
            self.assertIs(found is None, all(relates(word, first, second, rows) for rows in tests))
            if found is not None:
                self.assertFalse(bare.RELATES[word](bare.lead(first, found), bare.lead(second, found)))
                self.assertTrue(is_against(word, first, second, found))
        for word in QUALITIES:
            for thing, index in ((first, 1), (second, 2)):
                breaking = [bare.many(each_one[0]) for each_one in tried if not bare.HAS[word](each_one[index])]
                found = against_has(word, mixed(thing))
                self.judged(breaking, found, bare.rows_of(thing), longest >= enough(word, thing, None), (word, thing))
                self.assertIs(found is None, always_has(word, thing))
                self.assertIs(found is None, all(has(word, thing, rows) for rows in tests))
                if found is not None:
                    self.assertFalse(bare.HAS[word](bare.lead(thing, found)))
                    self.assertTrue(is_against_has(word, thing, found))

    def judged(self, breaking, found, names, is_sure, told):
        """Breaking are the numbers of atoms of environments that break it, the fewest first."""
        if breaking:
            self.assertIsNotNone(found, told)
            self.assertEqual(breaking[0], bare.many(found), told)
        elif is_sure:
            self.assertIsNone(found, told)
        if found is not None:
            self.assertIs(dict, found.__class__)
            self.assertEqual(names, sorted(found), told)
            for row in found.values():
                self.assertIs(list, row.__class__)
                self.assertEqual(len(row), len(set(row)))
            self.assertEqual(atoms_of(found), bare.many(found))

    def draw(self, seeds, depth=5, longest=None, **given):
        for seed in seeds:
            drawer = bare.Drawer(seed, **given)
            first = drawer.drawn(drawer.chance.randrange(2, depth + 1))
            second = drawer.near(first) if seed % 5 else drawer.drawn(depth)
            if seed % 2:
                first, second = second, first
            self.compare(first, second, longest)

    def test_one_name_on_a_way(self):
        self.draw(range(250), 6, most_names=1, names="xy")
        self.draw(range(150), 6, most_names=1, names="x", atoms=(0, "0"))
        self.draw(range(60), 6, most_names=1, atoms=(1,), lasts=True)

    def test_two_names_on_a_way(self):
        self.draw(range(250), 6, most_names=2, names="xy", rows="r")
        self.draw(range(120), 6, most_names=2, names="xy", rows="rs")
        self.draw(range(60), 6, most_names=2, names="xyz", rows="rs")
        self.draw(range(60), 6, most_names=2, names="xy", rows="r", atoms=(5,))
        self.draw(range(30), 6, most_names=2, names="xy", rows="r", atoms=(5, "5"))

    def test_three_names_on_a_way(self):
        self.draw(range(200), 7, rows="r")
        self.draw(range(60), 7, rows="r", atoms=("a",))
        self.draw(range(60), 7, rows="rs", longest=3)
        self.draw(range(30), 7, rows="rst", longest=3)

    def test_loops_with_tests_within(self):
        """Loops in other orders, with tests that pin names or do not: here the order of two rows matters."""
        chance = random.Random(3)
        for number in range(120):
            names = list("xyz"[:chance.choice([2, 2, 3])])
            rows = {name: chance.choice("rs" if len(names) == 2 else "r") for name in names}
            tests = [(chance.choice(["alike", "alike", "unlike"]), ("name", chance.choice(names)),
                      ("name", chance.choice(names))) for _ in range(chance.randrange(1, 3))]
            self.compare(self.loops(chance, names, rows, tests), self.loops(chance, names, rows, tests))

    def loops(self, chance, names, rows, tests):
        order = chance.sample(names, len(names))
        thing = ("give", (("name", names[0]),))
        if chance.random() < 0.3:
            thing = ("choice", thing, ("give", (("name", names[-1]),)))
        for test in tests:
            thing = ("when", test, thing)
        for name in order:
            thing = ("each", name, rows[name], thing)
        return thing


class Verdicts(unittest.TestCase):
    def test_rows_asked_the_other_way_round(self):
        first = each("x", "r", each("y", "s", GIVE))
        second = each("y", "s", each("x", "r", GIVE))
        self.assertEqual([False, False, True, True, True], [always(word, first, second) for word in RELATIONS])
        found = against("same", first, second)
        self.assertEqual((2, {"r", "s"}), (bare.many(found), set(found)))
        self.assertEqual([2, 2], [len(row) for row in found.values()])
        pinned = [each(a, "r", each(b, "r", when(GIVE))) for a, b in ("xy", "yx")]
        self.assertFalse(always("same", *pinned))
        pinned = [each(a, "r", each(b, "r", when(GIVE, X, Y))) for a, b in ("xy", "yx")]
        self.assertTrue(always("same", *pinned))
        pinned = [each("x", "r", each("y", "s", when(GIVE, X, Y))), each("y", "s", each("x", "r", when(GIVE, X, Y)))]
        self.assertFalse(always("same", *pinned))
        self.assertTrue(always("bag", *pinned))

    def test_no_atom_is_needed(self):
        self.assertEqual({}, against("same", GIVE, NONE))
        self.assertEqual({"r": []}, against("begins", ("choice", ONE, GIVE), NONE))
        self.assertEqual({"r": [], "s": []}, against("within", ("choice", GIVE, TWO), TWO))
        self.assertEqual({}, against_has("empty", GIVE))
        self.assertEqual({"r": []}, against_has("once", choices(GIVE, ONE, GIVE)))

    def test_a_written_atom_is_needed(self):
        first = each("x", "r", when(GIVE, X, atom("a")))
        for word in ("same", "bag", "set", "within", "begins"):
            self.assertEqual({"r": ["a"]}, against(word, first, NONE))
        self.assertEqual({"r": ["a"]}, against_has("empty", first))
        self.assertTrue(always_has("single", first))
        found = against("same", each("x", "r", when(GIVE, X, atom("a"), "unlike")), each("x", "r", GIVE))
        self.assertEqual({"r": ["a"]}, found)
        self.assertNotEqual(["a"], against("same", first, each("x", "r", GIVE))["r"])

    def test_just_the_row_names_of_both(self):
        first, second = each("x", "r", GIVE), each("x", "s", when(GIVE, X, X, "unlike"))
        self.assertEqual({"r", "s"}, set(against("same", first, second)))
        self.assertEqual([], against("same", first, second)["s"])
        self.assertEqual({"r"}, set(against_has("empty", first)))

    def test_parted_by_a_test(self):
        for test in (("alike", X, Y), ("unlike", X, Y), ("alike", X, atom(1))):
            other = ("unlike" if test[0] == "alike" else "alike",) + test[1:]
            inner = ("give", (X, Y))
            parted = each("x", "r", each("y", "r", ("choice", ("when", test, inner), ("when", other, inner))))
            whole = each("x", "r", each("y", "r", inner))
            self.assertTrue(all(always(word, parted, whole) for word in RELATIONS))
            early = ("choice", each("x", "r", each("y", "r", ("when", test, inner))),
                     each("x", "r", each("y", "r", ("when", other, inner))))
            self.assertEqual([False, False, True, True, True], [always(word, early, whole) for word in RELATIONS])

    def test_that_need_many_atoms(self):
        # Two results are in the wrong order only if all their six atoms are unlike.
        def unlike(body):
            for one, two in ((X, Y), (Y, Z), (X, Z)):
                body = when(body, one, two, "unlike")
            return body
        def loops(names, body):
            for name in reversed(names):
                body = each(name, "r", body)
            return body
        first, second = loops("xyz", unlike(GIVE)), loops("xzy", unlike(GIVE))
        found = against("same", first, second)
        self.assertEqual(3, bare.many(found))
        self.assertTrue(is_against("same", first, second, found))
        self.assertTrue(always("bag", first, second))
        self.assertEqual(3, bare.many(against_has("empty", first)))
        self.assertTrue(always_has("once", first))

    def test_single(self):
        self.assertEqual(2, bare.many(against_has("single", ONE)))
        self.assertEqual(2, bare.many(against_has("single", TWO)))
        self.assertEqual(1, bare.many(against_has("single", ("choice", ONE, ONE))))
        self.assertEqual(1, bare.many(against_has("single", ("choice", ONE, GIVE))))
        self.assertTrue(always_has("single", each("x", "r", when(GIVE, X, atom(1)))))
        self.assertTrue(always_has("single", ("choice", when(GIVE, atom(1), atom(2)), GIVE)))
        self.assertFalse(always_has("single", ("choice", GIVE, GIVE)))

    def test_verdicts_hold_in_greater_environments(self):
        chance = random.Random(9)
        held = 0
        for seed in range(150):
            drawer = bare.Drawer(seed, atoms=(0,) if seed % 2 else ())
            first = drawer.drawn(8)
            second = drawer.near(first)
            told = {word: always(word, first, second) for word in RELATIONS}
            for _ in range(6):
                rows = {name: chance.sample(range(7), chance.randrange(6)) for name in "rst"}
                row, other = bare.lead(first, rows), bare.lead(second, rows)
                for word in RELATIONS:
                    if told[word]:
                        held += 1
                        self.assertTrue(bare.RELATES[word](row, other))
        self.assertGreater(held, 1000)

    def test_that_are_near_and_great(self):
        for seed in range(40):
            drawer = bare.Drawer(seed, atoms=(7,))
            first = drawer.drawn(11)
            while len(list(bare.parts(first))) < 25 or bare.most(first) < 3:
                first = drawer.drawn(11)
            for second in (first, drawer.near(first)):
                for word in RELATIONS:
                    found = against(word, first, second)
                    self.assertIs(found is None, always(word, first, second))
                    if found is not None:
                        self.assertFalse(bare.RELATES[word](bare.lead(first, found), bare.lead(second, found)))


class Orders(unittest.TestCase):
    """Environments where just one order of a row is against a word."""

    def against_both(self, first, second, many):
        for one, two in ((first, second), (second, first)):
            for word in ("same", "begins"):
                found = against(word, one, two)
                self.assertEqual(many, bare.many(found))
                self.assertFalse(bare.RELATES[word](bare.lead(one, found), bare.lead(two, found)))
            self.assertTrue(always("bag", one, two))

    def test_an_order_that_hangs_on_a_row_beside_one_that_does_not(self):
        for row in "rs":
            parts = [when(("give", (X,)), X, atom(number)) for number in (1, 2)]
            for one, two in (parts, parts[::-1]):
                early = ("choice", each("x", row, one), each("x", row, two))
                for inner in (parts, parts[::-1]):
                    self.against_both(early, each("x", row, ("choice", *inner)), 2)

    def test_orders_that_hang_on_two_rows(self):
        def pinned(body, one, two):
            return when(when(body, X, atom(one)), Y, atom(two))
        for one, two in (((1, 2), (3, 4)), ((4, 2), (3, 1)), ((1, 4), (2, 3))):
            for rows in ("rs", "rr", "sr"):
                body = ("choice", pinned(GIVE, *one), pinned(("give", (X,)), *two))
                loops = [each("x", rows[0], each("y", rows[1], body)), each("y", rows[1], each("x", rows[0], body))]
                self.against_both(*loops, 4)

    def test_orders_that_hang_on_the_same_two_atoms(self):
        def pinned(body, one, two):
            return when(when(body, X, atom(one)), Y, atom(two))
        body = ("choice", pinned(GIVE, 1, 2), pinned(("give", (X,)), 2, 1))
        # Both rows ask the one row the other way round: whatever its order is, the results are turned about.
        self.against_both(each("x", "r", each("y", "r", body)), each("y", "r", each("x", "r", body)), 2)
        body = ("choice", pinned(GIVE, 1, 1), pinned(("give", (X,)), 2, 2))
        self.assertTrue(always("same", each("x", "r", each("y", "r", body)), each("y", "r", each("x", "r", body))))

    def test_exchanges(self):
        """Each way to have the fresh atoms of two results alike or not comes once."""
        fresh = list(range(6))
        for many, number in (((0, 0), 1), ((0, 3), 1), ((1, 1), 2), ((1, 3), 4), ((2, 2), 7), ((3, 2), 13), ((3, 3),
                                                                                                             34)):
            found = clashes.exchanges(fresh[:many[0]] + ["known"], ["known"] + fresh[:many[1]], fresh)
            self.assertEqual(number, len(found))
            kinds_found = set()
            for exchange in found:
                self.assertEqual(fresh[:many[1]], sorted(exchange))
                goals = [exchange[one] for one in sorted(exchange)]
                self.assertEqual(len(goals), len(set(goals)))
                beyond = [one for one in goals if one >= many[0]]
                self.assertEqual(list(range(many[0], many[0] + len(beyond))), beyond)
                kinds_found.add(tuple(goals))
            self.assertEqual(number, len(kinds_found))


class Enough(unittest.TestCase):
    def test_the_number(self):
        for first, many in ((NONE, 0), (GIVE, 0), (each("x", "r", NONE), 1), (TWO, 2), (THREE, 3)):
            for word in RELATIONS:
                for second in (NONE, first):
                    awaited = 2 * many if word in DOUBLED else many
                    self.assertEqual(awaited, enough(word=word, first=first, second=second))
                    self.assertEqual(awaited, enough(word, listed(second), mixed(first)))
            for word in QUALITIES:
                self.assertEqual(2 * many if word in DOUBLED else many, enough(word, first, None))

    def test_errors(self):
        for word in NO_WORDS:
            self.assertEqual(repr(word), repr(raised(self, NoRelation, enough, word, None, None).word))
        for word in RELATIONS + QUALITIES:
            self.assertEqual((1,), raised(self, NoOpen, enough, word, ("choice", 0, 0), 5).spot)
        for word in RELATIONS:
            self.assertEqual((2,), raised(self, NoOpen, enough, word, GIVE, ("choice", NONE, 0)).spot)
            self.assertEqual((), raised(self, NoOpen, enough, word, GIVE, None).spot)
        for word in QUALITIES:
            for second in (NONE, GIVE, ("choice", NONE, 0), 0, False, "", [], {}, PROGRAM):
                self.assertEqual((), raised(self, NoOpen, enough, word, GIVE, second).spot)

    def test_of_what_is_too_wide(self):
        thing = wide(50, "x")
        self.assertEqual(2, enough("same", thing, thing))
        self.assertEqual(2, enough("single", thing, None))


class Kinds(unittest.TestCase):
    def number(self, many, known):
        """As [46] has it."""
        def parted(things):
            return 1 if things == 0 else sum(choose(things - 1, k) * parted(k) for k in range(things))

        def choose(n, k):
            return 1 if k in (0, n) else choose(n - 1, k - 1) + choose(n - 1, k)
        return sum(choose(many, j) * known ** (many - j) * parted(j) for j in range(many + 1))

    def test_the_number(self):
        self.assertEqual((15, 52), (kinds(TWO, TWO), kinds(each("x", "r", each("y", "r", wide(1))), NONE)))
        for names in ("", "x", "xy", "xyz"):
            for known in (0, 1, 2, 3, 10, 44):
                awaited = self.number(2 * len(names), known)
                self.assertEqual(awaited, kinds(first=wide(known, *names), second=NONE))
                self.assertEqual(awaited, kinds(listed(NONE), mixed(wide(known, *names))))
                self.assertEqual(awaited, kinds(wide(known, *names), wide(known, *names)))

    def test_atoms_of_both(self):
        first, second = each("x", "r", ("give", (atom(1), atom(2)))), ("give", (atom(2), atom("2"), atom(3)))
        self.assertEqual(self.number(2, 4), kinds(first, second))
        self.assertEqual(self.number(2, 4), kinds(second, first))
        self.assertEqual(self.number(4, 4), kinds(TWO, choices(first, second)))

    def test_atoms_are_counted_wherever_they_are_written(self):
        thing = when(("last", "v", atom(3), each("x", "r", NONE)), atom(1), atom("1"))
        self.assertEqual(self.number(2, 3), kinds(thing, thing))

    def test_errors(self):
        self.assertEqual((1,), raised(self, NoOpen, kinds, ("choice", 0, 0), None).spot)
        self.assertEqual((), raised(self, NoOpen, kinds, GIVE, None).spot)


class Wide(unittest.TestCase):
    def test_just_below_two_thousand(self):
        # 43 written atoms and one name: 1937 kinds; with two names 5: 1540; with three names one: 877.
        for known, names, many in ((43, "x", 1937), (5, "xy", 1540), (1, "xyz", 877)):
            thing = wide(known, *names)
            self.assertEqual(many, kinds(thing, NONE))
            self.assertTrue(always("same", thing, thing))
            self.assertTrue(always_has("once", thing))
            self.assertIsNotNone(against("bag", thing, NONE))
            self.assertIsNotNone(against_has("empty", thing))
            self.assertGreater(len(verdicts.test_set(thing, NONE)), 1)

    def test_beyond(self):
        for known, names in ((44, "x"), (6, "xy"), (2, "xyz"), (54, "xyz")):
            thing = wide(known, *names)
            self.assertGreater(kinds(thing, NONE), 2000)
            for first, second in ((thing, NONE), (NONE, thing), (thing, thing)):
                for word in RELATIONS:
                    raised(self, TooWide, always, word, first, second)
                    raised(self, TooWide, against, word, first, second)
                    awaited = not bare.RELATES[word](bare.lead(first, {"r": [1]}), bare.lead(second, {"r": [1]}))
                    self.assertIs(awaited, is_against(word, first, second, {"r": [1]}))
                raised(self, TooWide, verdicts.test_set, first, second)
            for word in QUALITIES:
                raised(self, TooWide, always_has, word, thing)
                raised(self, TooWide, against_has, word, thing)
                awaited = not bare.HAS[word](bare.lead(thing, {"r": [1]}))
                self.assertIs(awaited, is_against_has(word, thing, {"r": [1]}))
                self.assertTrue(always_has(word, NONE))

    def test_of_both_together(self):
        first, second = wide(30, "x"), choices(*[("give", (atom(-one),)) for one in range(1, 16)])
        self.assertTrue(always("same", first, first))
        self.assertTrue(always("same", second, second))
        raised(self, TooWide, always, "same", first, second)
        raised(self, TooWide, verdicts.test_set, second, first)

    def test_of_one_alone(self):
        self.assertIsNotNone(against_has("single", wide(30, "x")))
        # Without names there is one kind, whatever is written.
        self.assertIsNone(against("same", wide(57), wide(57)))
        self.assertEqual(1, kinds(wide(57), wide(57)))


class Judges(unittest.TestCase):
    def test_environments_of_any_number_of_atoms(self):
        first, second = each("x", "r", GIVE), each("x", "s", GIVE)
        for env, is_so in (({"r": [1], "s": []}, True), ({"r": [1, 2], "s": [2, 1]}, True), ({"r": [1], "s": [1]},
                                                                                             False),
                           ({"r": SIXTEEN, "s": SIXTEEN[::-1]}, True), ({"r": SIXTEEN, "s": tuple(SIXTEEN)}, False),
                           ({"r": [1], "s": ["1"], "q": None, 0: 0}, True)):
            self.assertIs(is_so, is_against(word="same", first=listed(first), second=second, thing=env))
        for env, is_so in (({"r": [1]}, True), ({"r": ()}, False), ({"r": SIXTEEN, "R": 5, None: []}, True)):
            self.assertIs(is_so, is_against_has(word="empty", first=first, thing=env))

    def test_what_is_no_environment(self):
        first, second = each("x", "r", GIVE), each("x", "s", GIVE)
        things = [None, True, 0, "", "r", [], (), [["r", [1]]], {}, {"r": [1]}, {"s": [1]}, {"R": [1]}, PROGRAM, GIVE]
        for thing in things + [{"r": row, "s": [1]} for row in NO_ROWS] + [{"r": [1], "s": row} for row in NO_ROWS]:
            self.assertIs(False, is_against("same", first, second, thing))
        for thing in things[:9] + [{"s": [1]}] + [{"r": row} for row in NO_ROWS]:
            self.assertIs(False, is_against_has("empty", first, thing))

    def test_each_word(self):
        env = {"r": [1, 2]}
        for first, second, words in ((ONE, NONE, RELATIONS), (NONE, ONE, ("same", "bag", "set")), (ONE, ONE, ())):
            for word in RELATIONS:
                self.assertIs(word in words, is_against(word, first, second, env))
        for thing, words in ((ONE, ("empty", "single")), (NONE, ()), (("choice", ONE, ONE), QUALITIES)):
            for word in QUALITIES:
                self.assertIs(word in words, is_against_has(word, thing, env))


class Errors(unittest.TestCase):
    def test_their_order(self):
        wide_one = wide(2, "x", "y", "z")
        for work, more in ((always, ()), (against, ()), (is_against, (None,))):
            for word in NO_WORDS + QUALITIES:
                self.assertEqual(repr(word), repr(raised(self, NoRelation, work, word, None, None, *more).word))
            for word in RELATIONS:
                self.assertEqual((1,), raised(self, NoOpen, work, word, ("choice", 0, 0), None, *more).spot)
                self.assertEqual((2,), raised(self, NoOpen, work, word, wide_one, ("choice", NONE, 0), *more).spot)
        for work, more in ((always_has, ()), (against_has, ()), (is_against_has, (None,))):
            for word in NO_WORDS + RELATIONS:
                self.assertEqual(repr(word), repr(raised(self, NoRelation, work, word, None, *more).word))
            for word in QUALITIES:
                self.assertEqual((1,), raised(self, NoOpen, work, word, ("choice", 0, 0), *more).spot)
        self.assertEqual((1,), raised(self, NoOpen, verdicts.test_set, ("choice", 0, 0), None).spot)
        self.assertEqual((2,), raised(self, NoOpen, verdicts.test_set, wide_one, ("choice", NONE, 0)).spot)


class TestSets(unittest.TestCase):
    def test_environments_for_both(self):
        first, second = each("x", "r", each("y", "r", GIVE)), each("x", "s", GIVE)
        found = verdicts.test_set(first=listed(first), second=second)
        self.assertIs(list, found.__class__)
        for rows in found:
            self.assertEqual(["r", "s"], sorted(rows))
            self.assertTrue(all(row.__class__ is list for row in rows.values()))
            rows["r"].append(99)
        self.assertFalse(any(99 in rows["r"] for rows in verdicts.test_set(first, second)))

    def test_none_perhaps(self):
        self.assertEqual([], verdicts.test_set(NONE, NONE))

    def test_what_is_handed_in_is_not_changed(self):
        first, second = listed(TWO), listed(ONE)
        verdicts.test_set(first, second)
        against("same", first, second)
        self.assertEqual((listed(TWO), listed(ONE)), (first, second))


class Interface(unittest.TestCase):
    def test_names_and_arguments(self):
        for name, arguments in (("always", "word first second"), ("always_has", "word first"),
                                ("enough", "word first second"), ("kinds", "first second"),
                                ("against", "word first second"), ("against_has", "word first"),
                                ("is_against", "word first second thing"), ("is_against_has", "word first thing"),
                                ("test_set", "first second")):
            work = getattr(verdicts, name)
            self.assertEqual(arguments.split(), list(inspect.signature(work).parameters))
            self.assertEqual("triedagain.openverdicts", work.__module__)


if __name__ == "__main__":
    unittest.main()
