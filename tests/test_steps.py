"""[51] to [53]: what follows, steps and chains, compared with templates of the tests' own."""

import inspect
import random
import unittest

from triedagain import opensteps
from triedagain.errors import NoChain, NoOpen, NoPlace, NoStep, NoTest
from triedagain.openlead import RELATIONS
from triedagain.opensteps import back_step, chained, follows, is_chain, stepped
from triedagain.openverdicts import always
from tests import bare, moves
from tests.samples import is_frozen, listed, mixed, raised
from tests.test_lead import PROGRAM
from tests.test_opens import GIVE, NONE, X, Y, Z, atom, choices, each, last, when

T, U = ("alike", X, Y), ("unlike", X, Y)
A, B, C = ("give", (atom(1),)), ("give", (atom(2),)), ("give", (atom(3),))


class Planter:
    """Puts parts that fit a template of the table, or nearly so, at a place of a drawn expression."""

    def __init__(self, seed, **given):
        self.drawer = bare.Drawer(seed, **given)
        self.chance = self.drawer.chance

    def planted(self, template):
        """(expression, place), where the part at the place was made by this template."""
        while True:
            thing = self.drawer.drawn(5)
            place, _, names = self.chance.choice(list(bare.parts(thing)))
            part = self.fill(template, {}, names)
            if part is not None:
                whole = bare.put(thing, place, part)
                if bare.fault(whole) is None:
                    return whole, place

    def fill(self, template, found, names):
        if isinstance(template, tuple):
            row = [template[0]]
            for one in template[1:]:
                within = names + (found["x"],) if template[:2] == ("each", "x") and one is template[3] else names
                within = names + (found["y"],) if template[:2] == ("each", "y") and one is template[3] else within
                row.append(self.fill(one, found, within))
                if row[-1] is None:
                    return None
            return tuple(row)
        if template not in found:
            found[template] = self.thing(template, found, names)
        return found[template]

    def thing(self, letter, found, names):
        chance = self.chance
        if letter in "xy":
            free = [one for one in self.drawer.names if one not in names]
            return chance.choice(free) if free else None
        if letter in "rs":
            return chance.choice(self.drawer.rows)
        if letter == "u" and "t" in found and chance.random() < 0.7:
            return moves.opposite(found["t"])
        if letter in "tu":
            if chance.random() < 0.3:
                return self.drawer.test(tuple(one for one in names if one not in found.values()))
            pin = [("name", found[one]) for one in "xy" if found.get(one) in names]
            if pin and chance.random() < 0.7:
                sides = [chance.choice(pin), self.drawer.item(names)]
                return (chance.choice(["alike", "alike", "unlike"]),) + tuple(chance.sample(sides, 2))
            return self.drawer.test(names)
        return self.drawer.draw(chance.choice([1, 2, 2]), names)


def mores(chance, drawer, part, names, word):
    """Something to tell more with."""
    if word == "word":
        many = len(part[1]) if part[0] == "give" else 1
        return (chance.randrange(-1, many + 1), drawer.item(names) or X)
    if word in ("split", "guard"):
        return drawer.test(names) or ("alike", X, X)
    return None


class Compared(unittest.TestCase):
    def try_all(self, thing, chance, drawer, done):
        """Tries each word at each place; counts in done those that can be done."""
        for place, part, names in bare.parts(thing):
            for word in moves.WORDS:
                for _ in range(4 if word in ("word", "split", "guard") else 1):
                    step = (place, word, mores(chance, drawer, part, names, word))
                    self.compare(thing, step, chance, done)

    def compare(self, thing, step, chance, done):
        awaited = moves.moved(thing, step)
        given = chance.choice([step, listed(step), mixed(step)])
        if awaited is None:
            error = raised(self, NoStep, stepped, thing, given)
            self.assertEqual(repr(given), repr(error.wrong))
            self.assertEqual(repr(given), repr(raised(self, NoStep, back_step, thing, given).wrong))
            return
        found = stepped(expression=mixed(thing), step=given)
        self.assertEqual(awaited, found)
        self.assertTrue(is_frozen(found))
        key = step[1] + (" " + bare.at(thing, step[0])[0] if step[1] == "drop" else "")
        done[key] = done.get(key, 0) + 1
        for _ in range(2):
            rows = {name: chance.sample([0, 1, "a", 5, 6], chance.randrange(4)) for name in "rst"}
            self.assertEqual(bare.lead(thing, rows), bare.lead(found, rows), step)
        if key in ("shut", "drop each", "drop when"):
            self.assertEqual(repr(given), repr(raised(self, NoStep, back_step, thing, given).wrong))
            return
        back = back_step(expression=listed(thing), step=given)
        self.assertIs(tuple, back.__class__)
        self.assertTrue(is_frozen(back))
        self.assertEqual(thing, stepped(found, back))
        self.assertEqual(thing, moves.moved(found, back))

    def test_drawn_ones(self):
        chance, done = random.Random(1), {}
        for seed in range(120):
            drawer = bare.Drawer(seed, atoms=(0, "0") if seed % 2 else (), names="xy" if seed % 3 else "xyz",
                                 rows="rs", most_names=3)
            self.try_all(drawer.drawn(5), chance, drawer, done)

    def test_planted_ones(self):
        chance, done = random.Random(2), {}
        for seed in range(40):
            for word, old, new in moves.TEMPLATES:
                planter = Planter(seed, atoms=(0, "0"), rows="rs" if seed % 3 else "r")
                thing, place = planter.planted(old)
                part, names = bare.at(thing, place), bare.around(thing, place)
                for _ in range(6 if word in ("split", "guard") else 1):
                    self.compare(thing, (place, word, mores(chance, planter.drawer, part, names, word)), chance, done)
        for word in moves.WORDS:
            if word not in ("drop", "word"):
                self.assertGreater(done.get(word, 0), 4, word)
        for word in ("drop choice", "drop each", "drop when"):
            self.assertGreater(done.get(word, 0), 9, word)

    def test_words_of_gives(self):
        chance, done = random.Random(3), {}
        for seed in range(150):
            planter = Planter(seed, atoms=(0, "0"), rows="r", names="xyz")
            thing, place = planter.planted(("each", "x", "r", ("each", "y", "s", ("when", "t", ("when", "u", "a")))))
            drawer = planter.drawer
            for where, part, names in bare.parts(thing):
                if part[0] == "give":
                    for _ in range(5):
                        self.compare(thing, (where, "word", mores(chance, drawer, part, names, "word")), chance, done)
                    tests = [drawer.test(names) for _ in range(3)]
                    for test in tests:
                        self.compare(thing, (where, "guard", test), chance, done)
        self.assertGreater(done["word"], 100)
        self.assertGreater(done["guard"], 100)

    def test_follows(self):
        told = {True: 0, False: 0}
        for seed in range(250):
            planter = Planter(seed, atoms=(0, "0", 1) if seed % 2 else (), rows="r")
            thing, place = planter.planted(("each", "x", "r", ("when", "t", ("each", "y", "s", ("when", "u", "a")))))
            for where, _, names in bare.parts(thing):
                for _ in range(3):
                    test = planter.drawer.test(names)
                    if test is not None:
                        awaited = moves.follows(moves.tests_around(thing, where), names, test)
                        self.assertIs(awaited, follows(expression=mixed(thing), place=list(where), test=listed(test)))
                        told[awaited] += 1
        self.assertGreater(min(told.values()), 200)

    def test_chains_of_many_steps(self):
        for seed in range(60):
            chance = random.Random(seed)
            drawer = bare.Drawer(seed, atoms=(0,) if seed % 2 else (), rows="rs")
            thing = drawer.drawn(5)
            begin, chain, backs = thing, [], []
            for _ in range(200):
                place, part, names = chance.choice(list(bare.parts(thing)))
                word = chance.choice(moves.WORDS)
                step = (place, word, mores(chance, drawer, part, names, word))
                after = moves.moved(thing, step)
                if after is not None and len(chain) < 12:
                    # None where there may be no way back.
                    backs.insert(0, None if word in ("shut", "drop") else back_step(thing, step))
                    chain.append(step)
                    thing = after
            self.assertEqual(thing, chained(expression=listed(begin), chain=mixed(chain)))
            self.assertTrue(is_chain(first=begin, second=listed(thing), thing=tuple(chain)))
            if None not in backs:
                self.assertEqual(begin, chained(thing, backs))
            for word in RELATIONS:
                self.assertTrue(always(word, begin, thing))
            for index in range(len(chain)):
                wrong = chain[:index] + [((9, 9), "left", None)] + chain[index + 1:]
                self.assertEqual(index, raised(self, NoChain, chained, begin, wrong).index)
                self.assertFalse(is_chain(begin, thing, wrong))


class Steps(unittest.TestCase):
    def goes(self, old, word, new, more=None, around=(), back=True):
        """The step leads from the old part to the new one, within these loops and tests, and back if told so."""
        whole, other, place = old, new, ()
        for one in reversed(around):
            index = 3 if len(one) == 2 else 2
            place = (index,) + place
            head = ("each",) + one if len(one) == 2 else ("when", one)
            whole, other = head + (whole,), head + (other,)
        for step in ((place, word, more), [list(place), word, listed(more)]):
            self.assertEqual(other, stepped(whole, step), old)
            if back:
                self.assertEqual(whole, stepped(other, back_step(whole, step)))
            else:
                raised(self, NoStep, back_step, whole, step)
        self.assertEqual(other, moves.moved(whole, (place, word, more)))

    def none(self, part, word, more=None, around=()):
        """There is no such step for the part within these loops and tests."""
        place = ()
        for one in reversed(around):
            place = ((3 if len(one) == 2 else 2),) + place
            part = (("each",) + one if len(one) == 2 else ("when", one)) + (part,)
        self.assertIsNone(bare.fault(part))
        for step in ((place, word, more), [list(place), word, listed(more)]):
            raised(self, NoStep, stepped, part, step)
            raised(self, NoStep, back_step, part, step)
        self.assertIsNone(moves.moved(part, (place, word, more)))

    XY = (("x", "r"), ("y", "s"))

    def test_right_and_left(self):
        left, right = ("choice", ("choice", A, B), C), ("choice", A, ("choice", B, C))
        self.goes(left, "right", right)
        self.goes(right, "left", left)
        self.none(left, "left")
        self.none(right, "right")
        self.none(("choice", A, B), "right")
        self.none(("choice", A, when(("choice", B, C), atom(1), atom(1))), "left")

    def test_drop(self):
        self.goes(("choice", NONE, A), "drop", A)
        self.goes(("choice", A, NONE), "drop", A)
        self.goes(("choice", NONE, NONE), "drop", NONE)
        self.goes(each("x", "r", NONE), "drop", NONE, back=False)
        self.goes(when(NONE, atom(1), atom(2)), "drop", NONE, back=False)
        for part in (NONE, A, ("choice", A, B), each("x", "r", A), when(A, atom(1), atom(1))):
            self.none(part, "drop")

    def test_ahead_and_behind(self):
        for part in (NONE, A, ("choice", A, B), ("choice", NONE, A), each("x", "r", A)):
            self.goes(part, "ahead", ("choice", NONE, part))
            self.goes(part, "behind", ("choice", part, NONE))

    def test_spread_and_gather(self):
        one = ("when", T, ("choice", A, B))
        two = ("choice", ("when", T, A), ("when", T, B))
        self.goes(one, "spread", two, around=self.XY)
        self.goes(two, "gather", one, around=self.XY)
        self.none(two, "spread", around=self.XY)
        self.none(one, "gather", around=self.XY)
        for other in (U, ("alike", Y, X), ("alike", X, X)):
            self.none(("choice", ("when", T, A), ("when", other, B)), "gather", around=self.XY)
        self.none(("choice", ("when", T, A), B), "gather", around=self.XY)

    def test_swap(self):
        self.goes(("when", T, ("when", U, A)), "swap", ("when", U, ("when", T, A)), around=self.XY)
        self.none(("when", T, ("choice", A, A)), "swap", around=self.XY)

    def test_out_and_in(self):
        for test in (("alike", X, atom(1)), ("unlike", atom(1), X), ("alike", atom(2), atom(1))):
            self.goes(each("y", "s", ("when", test, A)), "out", ("when", test, each("y", "s", A)), around=(("x", "r"),))
            self.goes(("when", test, each("y", "s", A)), "in", each("y", "s", ("when", test, A)), around=(("x", "r"),))
        for test in (T, U, ("alike", Y, Y), ("alike", Y, atom(1)), ("unlike", atom(1), Y)):
            self.none(each("y", "s", ("when", test, A)), "out", around=(("x", "r"),))
        self.none(each("x", "r", A), "out")
        self.none(when(A, atom(1), atom(1)), "in")

    def test_split_and_join(self):
        for part in (A, NONE, ("choice", A, B)):
            whole = ("choice", ("when", T, part), ("when", U, part))
            self.goes(part, "split", whole, more=T, around=self.XY)
            self.goes(whole, "join", part, around=self.XY)
            self.goes(part, "split", ("choice", ("when", U, part), ("when", T, part)), more=U, around=self.XY)
        self.none(("choice", ("when", T, A), ("when", U, B)), "join", around=self.XY)
        self.none(("choice", ("when", T, A), ("when", ("unlike", Y, X), A)), "join", around=self.XY)
        self.none(("choice", ("when", T, A), ("when", T, A)), "join", around=self.XY)
        for more in (None, True, (), "alike", ("alike", X), ("alike", X, Z), ("same", X, Y), ("alike", X, ("atom",
                                                                                                           True)),
                     ("alike", X, Y, Y), {}, (X, Y), PROGRAM):
            self.bad_more(A, "split", more)

    def bad_more(self, part, word, more):
        whole = each("x", "r", each("y", "s", part))
        error = raised(self, NoStep, stepped, whole, ((3, 3), word, more))
        self.assertEqual(repr(((3, 3), word, more)), repr(error.wrong))

    def test_settle_and_shut(self):
        for test, tests in ((("alike", atom(1), atom(1)), ()), (("unlike", atom(1), atom("1")), ()), (("alike", X, X),
                                                                                                      ()),
                            (T, (T,)), (("alike", Y, X), (T,)), (("alike", X, atom(1)), (T, ("alike", Y, atom(1)))),
                            (("unlike", X, atom("1")), (("alike", X, atom(1)),)), (("unlike", Y, X), (U,)),
                            (U, (("alike", X, atom(1)), ("alike", Y, atom(2)))), (T, (("alike", X, X), U, T)),
                            (("alike", X, atom(7)), (("unlike", X, X),)), (("alike", X, atom(7)), (("alike", atom(1),
                                                                                                    atom(2)),))):
            around = self.XY + tests
            self.goes(("when", test, A), "settle", A, around=around)
            self.goes(("when", moves.opposite(test), A), "shut", NONE, around=around, back=False)
            self.goes(A, "guard", ("when", test, A), more=test, around=around)
        for test, tests in ((T, ()), (U, ()), (T, (("unlike", X, atom(1)), ("unlike", Y, atom(1)))), (T, (U,)),
                            (("alike", X, atom(1)), ()), (("unlike", X, atom(1)), (("unlike", X, atom(2)),)),
                            (("alike", atom(1), atom("1")), ()), (U, (("alike", X, atom(1)),))):
            around = self.XY + tests
            self.none(("when", test, A), "settle", around=around)
            self.none(("when", moves.opposite(test), A), "shut", around=around)
            self.none(A, "guard", more=test, around=around)
        self.none(A, "settle")
        self.none(A, "shut")

    def test_that_follow_from_many(self):
        around = (("x", "r"), ("y", "r"), ("z", "r"), T, ("alike", Z, Y))
        self.goes(("when", ("alike", X, Z), A), "settle", A, around=around)
        self.goes(("when", ("unlike", Z, X), A), "shut", NONE, around=around, back=False)
        around = (("x", "r"), ("y", "r"), ("z", "r"), ("unlike", X, Y), ("alike", Z, Y))
        self.goes(A, "guard", ("when", ("unlike", X, Z), A), more=("unlike", X, Z), around=around)
        # There is no end of atoms: three that are all unlike need not be one of two.
        around = (("x", "r"), ("y", "r"), U, ("unlike", X, atom(1)), ("unlike", X, atom(2)))
        self.none(("when", ("alike", Y, atom(1)), A), "settle", around=around)

    def test_guard_with_what_is_none(self):
        for more in (None, True, "alike", ("alike", X), ("alike", Z, Z), ("alike", X, X, X), ("alike", ("atom", None),
                                                                                              X), {}):
            self.bad_more(A, "guard", more)

    def test_exchange(self):
        one, two = ("when", ("alike", X, atom(1)), A), ("when", ("alike", X, atom(2)), B)
        self.goes(("choice", one, two), "exchange", ("choice", two, one), around=self.XY)
        one, two = ("when", T, A), ("when", U, B)
        self.goes(("choice", one, two), "exchange", ("choice", two, one), around=self.XY)
        two = ("when", ("alike", Y, atom(1)), B)
        self.none(("choice", one, two), "exchange", around=self.XY)
        self.goes(("choice", one, two), "exchange", ("choice", two, one), around=self.XY + (("unlike", X, atom(1)),))
        self.none(("choice", one, B), "exchange", around=self.XY)
        self.none(("choice", one, one), "exchange", around=self.XY)

    def test_word(self):
        part = ("give", (X, atom(1), Y))
        around = self.XY + (T,)
        self.goes(part, "word", ("give", (Y, atom(1), Y)), more=(0, Y), around=around)
        self.goes(part, "word", ("give", (X, atom(1), X)), more=(2, X), around=around)
        self.goes(part, "word", part, more=(1, atom(1)), around=around)
        self.goes(part, "word", ("give", (X, X, Y)), more=(1, X), around=around + (("alike", Y, atom(1)),))
        self.none(part, "word", more=(0, atom(1)), around=around)
        self.none(part, "word", more=(1, atom("1")), around=around)
        self.none(part, "word", more=(0, Y), around=self.XY)
        self.none(("choice", part, part), "word", more=(0, Y), around=around)
        for more in (None, True, 0, (), (0,), (0, X, X), (True, atom(1)), (False, X), (3, X), (-1, Y), (0, Z), (0,
                                                                                                                None),
                     ("0", X), (None, X), (X, 0), {0: X}, (0, ("atom", True)), (10 ** 30, X), ((0,), X), PROGRAM):
            whole = each("x", "r", each("y", "s", ("when", T, part)))
            raised(self, NoStep, stepped, whole, ((3, 3, 2), "word", more))

    def test_pass(self):
        def loops(first, second, test, rows="rs"):
            row = dict(zip("xy", rows))
            return each(first, row[first], each(second, row[second], ("when", test, A)))
        for test in (("alike", X, atom(1)), ("alike", atom(1), Y), ("alike", Y, Z), ("alike", Z, X)):
            self.goes(loops("x", "y", test), "pass", loops("y", "x", test), around=(("z", "q"),))
            self.goes(loops("y", "x", test), "pass", loops("x", "y", test), around=(("z", "q"),))
        for test in (T, ("alike", Y, X)):
            self.goes(loops("x", "y", test, "rr"), "pass", loops("y", "x", test, "rr"))
            self.none(loops("x", "y", test), "pass")
        for test in (U, ("alike", X, X), ("alike", Y, Y), ("unlike", X, atom(1)), ("alike", Z, atom(1)), ("alike", Z,
                                                                                                          Z)):
            self.none(loops("x", "y", test, "rr"), "pass", around=(("z", "q"),))
        self.none(each("x", "r", each("y", "r", A)), "pass")
        self.none(each("x", "r", ("when", ("alike", X, atom(1)), each("y", "r", A))), "pass")

    def test_part_and_meet(self):
        for test in (("alike", X, atom(1)), ("alike", Y, X), ("alike", X, Y)):
            one = each("x", "r", ("when", test, ("choice", A, B)))
            two = ("choice", each("x", "r", ("when", test, A)), each("x", "r", ("when", test, B)))
            self.goes(one, "part", two, around=(("y", "s"),))
            self.goes(two, "meet", one, around=(("y", "s"),))
        for test in (U, ("alike", X, X), ("alike", Y, atom(1)), ("alike", Y, Y), ("unlike", X, atom(1))):
            self.none(each("x", "r", ("when", test, ("choice", A, B))), "part", around=(("y", "s"),))
            self.none(("choice", each("x", "r", ("when", test, A)), each("x", "r", ("when", test, B))), "meet",
                      around=(("y", "s"),))
        test = ("alike", X, Y)
        for other in (each("x", "s", ("when", test, B)), each("z", "r", ("when", ("alike", Z, Y), B)), each("x", "r",
                                                                                                            B),
                      each("x", "r", ("when", ("alike", Y, X), B)), ("when", ("alike", Y, Y), B)):
            self.none(("choice", each("x", "r", ("when", test, A)), other), "meet", around=(("y", "s"),))
        for other in (A, NONE, ("choice", A, A), each("z", "q", A)):
            two = [each("x", "r", ("when", test, A)), each("x", "r", other)]
            self.none(("choice", *two), "meet", around=(("y", "s"),))
            self.none(("choice", *two[::-1]), "meet", around=(("y", "s"),))
        self.none(each("x", "r", ("choice", A, B)), "part")

    def test_no_step_of_an_expression_with_a_last(self):
        for thing in (last("v", atom(1), A), ("choice", NONE, last("v", atom(1), A)), ("choice", A, ("choice", NONE,
                                                                                                     last(
                "v", atom(1), NONE)))):
            for place, _, _ in bare.parts(thing):
                for word in ("ahead", "behind", "drop", "left"):
                    raised(self, NoStep, stepped, thing, (place, word, None))
                    raised(self, NoStep, back_step, thing, (place, word, None))

    def test_what_is_no_step(self):
        thing = ("choice", NONE, each("x", "r", ("give", (X,))))
        right = ((), "drop", None)
        self.assertEqual(thing[2], stepped(thing, right))
        for step in (None, True, 0, "", "drop", (), [], {}, ((), "drop"), ((), "drop", None, None), (None, "drop",
                                                                                                     None),
                     (0, "drop", None), ("", "drop", None), ({}, "drop", None), ((0,), "drop", None), ((3,), "drop",
                                                                                                       None),
                     ((1, 0), "ahead", None), ((True,), "ahead", None), ((2, True), "ahead", None), ((2, 1), "ahead",
                                                                                                     None),
                     ((2, 3, 1), "ahead", None), ((2, 3, 1, 0), "ahead", None), ((-1,), "ahead", None), (("1",),
                                                                                                         "ahead", None),
                     (((1,),), "ahead", None), ((), None, None), ((), True, None), ((), "Drop", None), ((), "", None),
                     ((), ["drop"], None), ((), ("drop",), None), ((), {}, None), ((), "drop", ()), ((), "drop", False),
                     ((), "drop", 0), ((), "drop", "drop"), ((), "ahead", ("alike", atom(1), atom(1))), ((), "ahead",
                                                                                                         {}),
                     PROGRAM, (PROGRAM, "drop", None), ((), PROGRAM, None), ((), "drop", PROGRAM), ((), "none", None),
                     ((10 ** 30,), "ahead", None)):
            self.assertEqual(repr(step), repr(raised(self, NoStep, stepped, thing, step).wrong))
            self.assertEqual(repr(step), repr(raised(self, NoStep, back_step, thing, step).wrong))
            self.assertEqual(0, raised(self, NoChain, chained, thing, [step]).index)
            self.assertEqual(1, raised(self, NoChain, chained, thing, [right, step]).index)
            self.assertIs(False, is_chain(thing, thing, [step]))

    def test_bounds(self):
        full = choices(*[GIVE] * 19, when(GIVE, atom(1), atom(1)))
        self.assertEqual(40, len(list(bare.parts(full))))
        self.assertIsNone(bare.fault(full))
        place = next(place for place, part, _ in bare.parts(full) if part[0] == "when")
        for step in (((), "ahead", None), (place, "behind", None), (place, "split", ("alike", atom(1), atom(1))),
                     (place, "guard", ("alike", atom(1), atom(1)))):
            raised(self, NoStep, stepped, full, step)
        settled = stepped(full, (place, "settle", None))
        self.assertEqual(full, stepped(settled, (place, "guard", ("alike", atom(1), atom(1)))))
        raised(self, NoStep, stepped, settled, (place, "ahead", None))
        almost = choices(*[GIVE] * 19)
        self.assertEqual(39, len(list(bare.parts(stepped(almost, ((), "ahead", None))))))
        # Nested 12 deep, and one deeper.
        deep = GIVE
        for _ in range(10):
            deep = when(deep, atom(1), atom(1))
        whole = stepped(deep, ((), "ahead", None))
        self.assertEqual(12, max(len(place) for place, _, _ in bare.parts(whole)) + 1)
        raised(self, NoStep, stepped, whole, ((), "ahead", None))
        raised(self, NoStep, stepped, whole, ((2,), "behind", None))
        self.assertTrue(stepped(whole, ((1,), "behind", None)))
        raised(self, NoStep, back_step, whole, ((), "ahead", None))

    def test_a_step_may_make_it_too_deep(self):
        inner = GIVE
        for _ in range(8):
            inner = when(inner, atom(1), atom(1))
        thing = ("choice", A, ("choice", B, when(inner, atom(1), atom(1))))
        self.assertEqual(12, max(len(place) for place, _, _ in bare.parts(thing)) + 1)
        left = stepped(thing, ((), "left", None))
        self.assertEqual(thing, stepped(left, ((), "right", None)))
        deeper = ("choice", ("choice", A, B), when(when(inner, atom(1), atom(1)), atom(1), atom(1)))
        self.assertEqual(12, max(len(place) for place, _, _ in bare.parts(deeper)) + 1)
        raised(self, NoStep, stepped, deeper, ((), "right", None))
        raised(self, NoStep, back_step, deeper, ((), "right", None))

    def test_the_order_of_the_errors(self):
        for work in (stepped, back_step):
            self.assertEqual((1,), raised(self, NoOpen, work, ("choice", 0, 0), None).spot)
            raised(self, NoStep, work, NONE, None)


class Follows(unittest.TestCase):
    def test_where_the_tests_can_never_all_pass(self):
        thing = each("x", "r", when(when(A, X, atom(1)), X, atom(2)))
        for test in (("alike", X, X), ("unlike", X, X), ("alike", atom(1), atom(2)), ("unlike", X, atom(1)),
                     ("alike", X, atom("5"))):
            self.assertIs(True, follows(thing, (3, 2, 2), test))
        self.assertIs(False, follows(thing, (3, 2), ("unlike", X, X)))
        self.assertIs(True, follows(thing, (3, 2), ("unlike", X, atom(1))))
        self.assertIs(True, follows(when(A, atom(1), atom(2)), (2,), ("alike", atom(3), atom(4))))

    def test_a_test_does_not_count_for_its_own_place(self):
        thing = each("x", "r", when(A, X, atom(1)))
        self.assertIs(False, follows(thing, (3,), ("alike", X, atom(1))))
        self.assertIs(True, follows(thing, (3, 2), ("alike", X, atom(1))))
        self.assertIs(True, follows(thing, [3, 2], ["alike", ["atom", 1], ["name", "x"]]))

    def test_a_last_is_no_hindrance(self):
        thing = each("x", "r", when(last("v", X, A), X, atom(1)))
        self.assertIs(True, follows(thing, (3, 2, 3), ("alike", X, atom(1))))

    def test_errors(self):
        thing = each("x", "r", when(A, X, atom(1)))
        self.assertEqual((1,), raised(self, NoOpen, follows, ("choice", 0, 0), None, None).spot)
        for place in (None, True, 0, "", {}, (0,), (1,), (3, 1), (3, True), (3, 2, 1), (3, 2, 1, 0), (-1,), PROGRAM):
            self.assertEqual(repr(place), repr(raised(self, NoPlace, follows, thing, place, None).path))
        for test in (None, True, "alike", (), ("alike",), ("alike", X), ("alike", X, Y), ("alike", X, X, X), ("same",
                                                                                                              X, X),
                     (("alike",), X, X), ("alike", X, ("atom", True)), ("alike", X, "x"), ("unlike", ("name", ["x"]),
                                                                                           X),
                     {}, PROGRAM, ("alike", X, PROGRAM), (None, X, X)):
            self.assertEqual(repr(test), repr(raised(self, NoTest, follows, thing, (3, 2), test).test))
        raised(self, NoTest, follows, thing, (), ("alike", X, X))


class Chains(unittest.TestCase):
    def test_empty_ones(self):
        for thing in (NONE, A, last("v", atom(1), A), each("x", "r", last("v", X, NONE))):
            for chain in ([], ()):
                self.assertEqual(thing, chained(thing, chain))
                self.assertEqual(thing, chained(listed(thing), chain))
                self.assertIs(True, is_chain(thing, listed(thing), chain))
                self.assertIs(False, is_chain(thing, ("choice", A, thing), chain))

    def test_of_an_expression_with_a_last(self):
        thing = ("choice", NONE, last("v", atom(1), A))
        self.assertEqual(0, raised(self, NoChain, chained, thing, [((), "drop", None)]).index)
        self.assertIs(False, is_chain(thing, thing[2], [((), "drop", None)]))

    def test_what_is_no_row(self):
        for chain in (None, True, 0, "", "abc", {}, {0: ((), "ahead", None)}, PROGRAM):
            self.assertEqual(-1, raised(self, NoChain, chained, A, chain).index)
            self.assertIs(False, is_chain(A, A, chain))

    def test_just_the_second(self):
        chain = [((), "ahead", None), ((), "behind", None)]
        second = ("choice", ("choice", NONE, A), NONE)
        self.assertIs(True, is_chain(A, second, chain))
        for other in (A, ("choice", NONE, ("choice", A, NONE)), ("choice", ("choice", NONE, B), NONE)):
            self.assertIs(False, is_chain(A, other, chain))
        self.assertIs(False, is_chain(("give", (atom("1"),)), second, chain))

    def test_errors(self):
        self.assertEqual((1,), raised(self, NoOpen, chained, ("choice", 0, 0), None).spot)
        self.assertEqual((1,), raised(self, NoOpen, is_chain, ("choice", 0, 0), None, None).spot)
        self.assertEqual((2,), raised(self, NoOpen, is_chain, A, ("choice", A, 0), None).spot)

    def test_long_ones(self):
        chain = [((), "ahead", None), ((), "drop", None)] * 500
        self.assertEqual(A, chained(A, chain))
        self.assertEqual(1000, raised(self, NoChain, chained, A, chain + [((), "drop", None)]).index)

    def test_what_is_handed_in_is_not_changed(self):
        thing, chain = ["choice", ["none"], ["give", [["atom", 1]]]], [[[], "drop", None]]
        self.assertEqual(A, chained(thing, chain))
        self.assertEqual(["choice", ["none"], ["give", [["atom", 1]]]], thing)
        self.assertEqual([[[], "drop", None]], chain)


class Interface(unittest.TestCase):
    def test_names_and_arguments(self):
        for name, arguments in (("follows", "expression place test"), ("stepped", "expression step"),
                                ("chained", "expression chain"), ("is_chain", "first second thing"),
                                ("back_step", "expression step")):
            work = getattr(opensteps, name)
            self.assertEqual(arguments.split(), list(inspect.signature(work).parameters))
            self.assertEqual("triedagain.opensteps", work.__module__)


if __name__ == "__main__":
    unittest.main()
