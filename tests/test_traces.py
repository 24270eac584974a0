"""[49] and [50]: what leaves a trace, and papers that show that nothing does."""

import inspect
import random
import unittest

from triedagain import opentraces
from triedagain.errors import NoOpen, TooWide
from triedagain.openlead import led
from triedagain.opentraces import is_trace, is_trace_paper, trace, trace_paper
from tests import bare
from tests.samples import listed, mixed, raised
from tests.test_lead import NO_ROWS, PROGRAM, SIXTEEN
from tests.test_opens import GIVE, NONE, X, Y, Z, atom, choices, each, last, when
from tests.test_verdicts import wide


def lasts(thing, given=(), tests=(), place=()):
    """(place, [(name, row)], tests around) for each last."""
    word = thing[0]
    if word == "last":
        yield place, given, tests
    if word == "each":
        given += ((thing[1], thing[2]),)
    if word == "when":
        tests += (thing[1],)
    for index in bare.WITHIN[word]:
        yield from lasts(thing[index], given, tests, place + (index,))


def passing(tests, way):
    def value(item):
        return item[1] if item[0] == "atom" else way[item[1]]
    return all((value(one) == value(two)) == (word == "alike") for word, one, two in tests)


def least(thing, given, way):
    return {row: list(dict.fromkeys(way[x] for x, asked in given if asked == row)) for row in bare.rows_of(thing)}


def kind(way, known):
    """A tuple that is the same for ways of one kind."""
    others = [one for one in dict.fromkeys(way[x] for x in sorted(way)) if one not in known]
    return tuple((x, ("known", repr(way[x])) if way[x] in known else ("other",
                                                                      others.index(way[x]))) for x in sorted(way))


def kinds_to(thing):
    """All kinds of ways to lasts, as pairs of a place and a kind."""
    known = bare.atoms_in(thing)
    found = set()
    for place, given, tests in lasts(thing):
        ways = [{}]
        for x, _ in given:
            ways = [{**way, x: one} for way in ways for one in known + ["new 0", "new 1", "new 2"]]
        found |= {(place, kind(way, known)) for way in ways if passing(tests, way)}
    return found


def paper_is_right(thing, paper):
    """What [50] says of papers that are made of right things, told another way."""
    shown = set()
    found = {place: (given, tests) for place, given, tests in lasts(thing)}
    for place, way, result in paper:
        if tuple(place) not in found:
            return False
        given, tests = found[tuple(place)]
        if set(way) != {x for x, _ in given} or not passing(tests, way):
            return False
        if result not in bare.lead(thing, least(thing, given, way)):
            return False
        shown.add((tuple(place), kind(way, bare.atoms_in(thing))))
    return shown == kinds_to(thing)


class Compared(unittest.TestCase):
    def compare(self, thing):
        names = bare.rows_of(thing)
        left = []
        for rows in bare.environments(names, bare.atoms_in(thing), bare.most(thing)):
            lasting = {}
            if not bare.lead(thing, rows, lasting=lasting) and lasting:
                left.append(bare.many(rows))
                self.assertTrue(is_trace(thing, rows))
            else:
                self.assertFalse(is_trace(thing, rows))
        found, paper = trace(mixed(thing)), trace_paper(listed(thing))
        self.assertEqual(bool(left), found is not None, thing)
        self.assertEqual(bool(left), paper is None, thing)
        if left:
            self.assertEqual((left[0], names), (bare.many(found), sorted(found)))
            self.assertTrue(is_trace(expression=listed(thing), thing=found))
            self.assertTrue(all(row.__class__ is list for row in found.values()))
        else:
            self.assertIs(list, paper.__class__)
            self.assertTrue(paper_is_right(thing, paper))
            self.assertTrue(is_trace_paper(expression=mixed(thing), thing=paper))
            self.assertTrue(is_trace_paper(thing, listed_paper(paper)))
        return paper

    def test_drawn_ones(self):
        papers = 0
        for seed in range(500):
            drawer = bare.Drawer(seed, rows="rs", names="xy" if seed % 3 else "xyz", most_names=2 if seed % 3 else 3,
                                 atoms=((), (0,), (0, "0"))[seed % 3 if seed % 2 else 0], lasts=True)
            thing = drawer.drawn(6)
            if drawer.chance.random() < 0.5:
                thing = ("choice", drawer.drawn(4), thing)
                if bare.fault(thing) is not None:
                    continue
            paper = self.compare(thing)
            papers += bool(paper)
        self.assertGreater(papers, 60)

    def test_spoiled_papers(self):
        chance = random.Random(4)
        judged = {True: 0, False: 0}
        for seed in range(400):
            drawer = bare.Drawer(seed, rows="rs", names="xy", most_names=2, atoms=(0,) if seed % 2 else (), lasts=True)
            thing = drawer.drawn(7)
            paper = trace_paper(thing)
            if not paper:
                continue
            for _ in range(6):
                other = self.spoiled(list(paper), thing, chance)
                told = paper_is_right(thing, other)
                judged[told] += 1
                self.assertIs(told, is_trace_paper(thing, chance.choice([other, tuple(other), listed_paper(other)])),
                              other)
        self.assertGreater(min(judged.values()), 30)

    def spoiled(self, paper, thing, chance):
        index = chance.randrange(len(paper))
        place, way, result = paper[index]
        luck = chance.randrange(8)
        if luck == 0:
            del paper[index]
        elif luck == 1:
            paper.insert(chance.randrange(len(paper)), paper[index])
        elif luck == 2:
            paper.reverse()
        elif luck == 3:
            paper[index] = (chance.choice(paper)[0], way, result)
        elif luck == 4:
            paper[index] = (place, chance.choice(paper)[1], result)
        elif luck == 5:
            paper[index] = (place, way, chance.choice(paper)[2])
        elif luck == 6:
            # Other atoms in all of it, and perhaps those written too.
            other = {one: chance.choice([0, 1, 2, "z"]) for one in list(way.values()) + ["?"]}
            shown = (tuple(other.get(one, one) for one in result[0]), tuple((x, other.get(one, one)) for x,
                                                                            one in result[1]))
            paper[index] = (place, {x: other[one] for x, one in way.items()}, shown)
        else:
            found = [one for one, _, given in bare.parts(thing)]
            paper[index] = (chance.choice(found), way, result)
        return paper


def listed_paper(paper):
    """The paper with lists for tuples."""
    return [[listed(place), dict(way), listed(result)] for place, way, result in paper]


class Traces(unittest.TestCase):
    def test_none_and_some(self):
        for thing in (NONE, GIVE, each("x", "r", GIVE), last("v", atom(1), GIVE), each("x", "r", last("v", X, GIVE)),
                      ("choice", GIVE, last("v", atom(1), NONE)), when(last("v", atom(1), NONE), atom(1), atom(2)),
                      each("x", "r", when(last("v", X, NONE), X, X, "unlike"))):
            self.assertIsNone(trace(expression=thing))
            self.assertTrue(is_trace_paper(thing, trace_paper(expression=thing)))
        for thing, env in ((last("v", atom(1), NONE), {}), (each("x", "r", ("choice", last("v", atom(1), NONE), GIVE)),
                                                            None),
                           (each("x", "r", last("v", X, when(GIVE, X, atom(1)))), {"r": [0]}),
                           (each("x", "r", last("v", X, each("y", "s", GIVE))), {"r": [0], "s": []}),
                           (each("x", "r", last("v", X, when(GIVE, X, atom(0), "unlike"))), {"r": [0]}),
                           (last("v", atom(1), each("y", "s", GIVE)), {"s": []})):
            self.assertEqual(env, trace(thing))
            self.assertEqual(env is not None, trace_paper(thing) is None)

    def test_the_fewest_atoms(self):
        deep = each("x", "r", each("y", "r", when(last("v", X, NONE), X, Y, "unlike")))
        self.assertEqual(2, bare.many(trace(deep)))
        self.assertEqual(1, bare.many(trace(each("x", "r", each("y", "r", last("v", X, NONE))))))
        self.assertEqual({"r": []}, trace(("choice", deep, last("v", atom(0), NONE))))
        thing = each("x", "r", each("y", "s", each("z", "t", when(when(when(last("v", X, NONE), X, Y, "unlike"), Y, Z,
                                                                       "unlike"), X, Z, "unlike"))))
        found = trace(thing)
        self.assertEqual((3, [1, 1, 1]), (bare.many(found), [len(row) for row in found.values()]))

    def test_a_result_elsewhere_hides_it(self):
        thing = ("choice", each("x", "r", last("v", X, NONE)), each("x", "r", GIVE))
        self.assertIsNone(trace(thing))
        thing = ("choice", each("x", "r", last("v", X, NONE)), each("x", "s", GIVE))
        self.assertEqual({"r": [0], "s": []}, trace(thing))
        thing = ("choice", each("x", "r", each("y", "s", last("v", X, NONE))), each("x", "s", GIVE))
        self.assertIsNone(trace(thing))

    def test_the_judge_of_traces(self):
        thing = each("x", "r", last("v", X, when(GIVE, X, atom(1))))
        for env, is_one in (({"r": [2]}, True), ({"r": [2, 3, "1"], "s": None, 0: 0}, True), ({"r": []}, False),
                            ({"r": [2, 1]}, False), ({"r": SIXTEEN[2:] + ["a"]}, True), ({"r": (0,)}, True), ({},
                                                                                                              False),
                            (None, False), ([], False), ("", False), (True, False), (PROGRAM, False), ([["r", [2]]],
                                                                                                       False)):
            self.assertIs(is_one, is_trace(thing, env))
        for row in NO_ROWS:
            self.assertIs(False, is_trace(thing, {"r": row}))
        self.assertIs(False, is_trace(NONE, {}))
        self.assertIs(True, is_trace(last("v", atom(1), NONE), {}))
        for seed in range(100):
            drawer = bare.Drawer(seed, lasts=True)
            thing = drawer.drawn(7)
            env = {name: drawer.chance.sample(range(9), drawer.chance.randrange(5)) for name in "rst"}
            row, lasting = led(thing, env)
            self.assertIs(not row and bool(lasting), is_trace(thing, env))

    def test_errors(self):
        fault = ("choice", 0, 0)
        for work, more in ((trace, ()), (is_trace, (None,)), (trace_paper, ()), (is_trace_paper, (None,))):
            self.assertEqual((1,), raised(self, NoOpen, work, fault, *more).spot)
        for known, names in ((44, "x"), (6, "xy"), (2, "xyz")):
            thing = ("choice", last("v", atom(1), NONE), wide(known, *names))
            raised(self, TooWide, trace, thing)
            raised(self, TooWide, trace_paper, thing)
            self.assertTrue(is_trace(thing, {"r": []}))
            self.assertFalse(is_trace(thing, {"r": [1]}))
        for known, names in ((43, "x"), (5, "xy"), (1, "xyz")):
            thing = ("choice", last("v", atom(0), NONE), wide(known, *names))
            self.assertEqual({"r": []}, trace(thing))
            self.assertIsNone(trace_paper(thing))


class Papers(unittest.TestCase):
    THING = each("x", "r", last("v", X, each("y", "s", ("choice", when(last("w", Y, ("give", (X, Y))), X, Y, "unlike"),
                                                       NONE))))
    RIGHT = ("choice", each("x", "r", ("choice", GIVE, last("v", X, NONE))), last("w", atom(5), ("give", (atom(5),))))

    def test_without_lasts(self):
        for thing in (NONE, GIVE, each("x", "r", GIVE)):
            self.assertEqual([], trace_paper(thing))
            for paper in ([], ()):
                self.assertIs(True, is_trace_paper(thing, paper))
            for paper in ({}, "", None, False, [((), {}, ((), ()))], [None]):
                self.assertIs(False, is_trace_paper(thing, paper))

    def test_a_last_that_is_never_reached(self):
        thing = each("x", "r", when(last("v", X, NONE), X, X, "unlike"))
        self.assertEqual([], trace_paper(thing))
        self.assertTrue(is_trace_paper(thing, []))
        self.assertFalse(is_trace_paper(thing, [((3, 2), {"x": 1}, ((), (("x", 1),)))]))

    def test_one_by_hand(self):
        first, second = ((1, 3, 2), {"x": 7}, ((), (("x", 7),))), ((2,), {}, ((5,), ()))
        known = ((1, 3, 2), {"x": 5}, ((), (("x", 5),)))
        right = [first, second, known]
        for paper in (right, right[::-1], tuple(right), right + right, listed_paper(right), right + [
                ((1, 3, 2), {"x": "b"}, ((), (("x", "b"),)))], [first, known, ((1, 3, 2), {"x": 7}, ((5,), ())),
                                                                second]):
            self.assertIs(True, is_trace_paper(self.RIGHT, paper))
        for paper in ([first, second], [first, known], [second, known], [], right + [None], right + [first[:2]],
                      right + [first + (None,)], [(0,) + first[1:], second, known], None, True, "", {}, {0: first},
                      PROGRAM):
            self.assertIs(False, is_trace_paper(self.RIGHT, paper))
        for place in (None, (), (1,), (1, 3), (1, 3, 1), (1, 3, 2, 3), (2,), (1, 3, True), (True, 3, 2), "132", {},
                      [[1, 3, 2]],
                      (1, 3, 2, 0), (-1,), PROGRAM):
            self.assertIs(False, is_trace_paper(self.RIGHT, right + [(place,) + first[1:]]))
        for way in (None, {}, {"x": 8}, {"y": 7}, {"x": 7, "y": 7}, {"x": True}, {"x": None}, {"x": [7]}, {"x": "7"},
                    {"x": "a" * 21}, [("x", 7)], ("x",), {0: 7}, {("x",): 7}, PROGRAM):
            self.assertIs(False, is_trace_paper(self.RIGHT, right + [(first[0], way, first[2])]))
        for result in (None, (), ((), ()), ((7,), (("x", 7),)), ((), (("x", 8),)), ((), (("x", True),)), ((), (("y",
                                                                                                                7),)),
                       ((), (("x", 7), ("x", 7))), ((), (("x", 7, 7),)), ((True,), ()), ((6,), ()), ("5", ()), (("5",),
                                                                                                                ()),
                       ((5,),), ((5,), (), ()), {}, "", ((), {"x": 7}), ((), (("x", [7]),)), (([],), ()), PROGRAM,
                       ((PROGRAM,), ())):
            self.assertIs(False, is_trace_paper(self.RIGHT, right + [(first[0], first[1], result)]))

    def test_flags_are_no_integers(self):
        thing = each("x", "r", last("v", X, ("give", (X,))))
        self.assertTrue(is_trace_paper(thing, [((3,), {"x": 1}, ((1,), (("x", 1),)))]))
        for paper in ([((3,), {"x": True}, ((1,), (("x", 1),)))], [((3,), {"x": 1}, ((True,), (("x", 1),)))],
                      [((3,), {"x": 1}, ((1,), (("x", True),)))]):
            self.assertFalse(is_trace_paper(thing, paper))
        thing = each("x", "r", ("choice", when(last("v", X, ("give", (X,))), X, atom(0)), GIVE))
        self.assertTrue(is_trace_paper(thing, [((3, 1, 2), {"x": 0}, ((0,), (("x", 0),)))]))
        self.assertFalse(is_trace_paper(thing, [((3, 1, 2), {"x": False}, ((0,), (("x", 0),)))]))

    def test_the_least_environment(self):
        """A result must come there, and not only where rows have more atoms."""
        thing = each("x", "r", ("choice", last("v", X, NONE), each("y", "s", ("give", (Y,)))))
        self.assertIsNone(trace_paper(thing))
        self.assertFalse(is_trace_paper(thing, [((3, 1), {"x": 1}, ((1,), (("x", 1), ("y", 1))))]))
        thing = each("x", "r", ("choice", last("v", X, NONE), each("y", "r", ("give", (Y,)))))
        self.assertTrue(is_trace_paper(thing, [((3, 1), {"x": 1}, ((1,), (("x", 1), ("y", 1))))]))
        self.assertFalse(is_trace_paper(thing, [((3, 1), {"x": 1}, ((2,), (("x", 1), ("y", 2))))]))

    def test_each_kind_of_ways(self):
        thing = each("x", "r", each("y", "r", when(last("v", X, ("give", (X, atom(0)))), Y, atom(1), "unlike")))
        paper = trace_paper(thing)
        self.assertEqual(len(kinds_to(thing)), len(paper))
        self.assertEqual(7, len(paper))
        for index in range(len(paper)):
            self.assertFalse(is_trace_paper(thing, paper[:index] + paper[index + 1:]))
        fresh = [item for item in paper if not {0, 1} & set(item[1].values())]
        self.assertEqual(2, len(fresh))

    def test_the_judge_of_what_is_too_wide(self):
        thing = ("choice", GIVE, each("x", "r", each("y", "r", each("z", "r", last("v", X, choices(*[
            ("give", tuple(atom(3 * one + two) for two in range(3))) for one in range(16)]))))))
        raised(self, TooWide, trace_paper, thing)
        item = ((2, 3, 3, 3), {"x": 99, "y": 98, "z": 97}, ((), ()))
        self.assertFalse(is_trace_paper(thing, [item]))
        self.assertFalse(is_trace_paper(thing, [item] * 2000))
        thing = ("choice", GIVE, each("x", "r", each("y", "r", when(when(last("v", X, wide(45)), X, atom(3)), Y,
                                                                    atom(4)))))
        raised(self, TooWide, trace_paper, thing)
        item = ((2, 3, 3, 2, 2), {"x": 3, "y": 4}, ((), ()))
        self.assertTrue(is_trace_paper(thing, [item]))
        self.assertFalse(is_trace_paper(thing, []))

    def test_what_is_returned(self):
        paper = trace_paper(self.RIGHT)
        for item in paper:
            self.assertEqual([tuple, dict, tuple], [part.__class__ for part in item])
            self.assertIs(tuple, item.__class__)
        paper[0][1].clear()
        self.assertTrue(is_trace_paper(self.RIGHT, trace_paper(self.RIGHT)))
        self.assertEqual(2, len(trace_paper(each("x", "r", ("choice", last("v", X, NONE), ("give", (atom(1),)))))))


class Interface(unittest.TestCase):
    def test_names_and_arguments(self):
        for name, arguments in (("trace", "expression"), ("is_trace", "expression thing"), ("trace_paper",
                                                                                            "expression"),
                                ("is_trace_paper", "expression thing")):
            work = getattr(opentraces, name)
            self.assertEqual(arguments.split(), list(inspect.signature(work).parameters))
            self.assertEqual("triedagain.opentraces", work.__module__)


if __name__ == "__main__":
    unittest.main()
