"""What is promised over the whole program: parts that stand apart tell the same."""

import importlib
import inspect
import re
import unittest

from triedagain.bridge import bridged
from triedagain.codes import Code
from triedagain.compiling import compiled, shortened
from triedagain.errors import NoChain, NoEnvironment, NoOpen, NoPlace, NoStep, NoTest, TooMany, TriedError
from triedagain.machine import MachineRun
from triedagain.openlead import QUALITIES, RELATIONS, has, is_parting, led, parting, relates, row_of, struck
from triedagain.opens import is_open, open_fault, open_part
from triedagain.opensteps import back_step, chained, follows, is_chain, stepped
from triedagain.opentraces import is_trace, is_trace_paper, trace, trace_paper
from triedagain.openverdicts import (
    against, against_has, always, always_has, enough, is_against, is_against_has, kinds)
from triedagain.programs import Program, is_expression
from triedagain.runs import Run, results
from triedagain.sessions import Session
from triedagain.texts import expression_text, program_text, read_expression, read_program
from tests import bare
from tests.drawn import drawn_program
from tests.samples import listed, raised
from tests.test_long import from_below
from tests.test_opens import GIVE, NONE, X, atom, each, last, when

NEW_NAMES = {"main": "main", "f": "firstly", "g": "gg", "h": "i", "i": "h", "s": "lists", "l": "x", "k": "kk",
             "j": "j"}
ONE = each("x", "r", ("give", (X,)))


def renamed(expression):
    """The expression with other names."""
    word = expression[0]
    if word == "name":
        return ("name", NEW_NAMES[expression[1]])
    if word in ("give", "lend"):
        return (word, NEW_NAMES[expression[1]], renamed(expression[2]))
    return tuple([word] + [renamed_thing(thing) for thing in expression[1:]])


def renamed_thing(thing):
    if not isinstance(thing, tuple):
        return thing
    return renamed(thing) if thing and isinstance(thing[0], str) else tuple(renamed(part) for part in thing)


def renamed_words(words):
    return re.sub("to ([a-z]+)", lambda found: "to " + NEW_NAMES[found.group(1)], words)


def renamed_program(program):
    procedures = [program.procedure(name) for name in program.names()]
    return Program([(NEW_NAMES[name], tuple(NEW_NAMES[param] for param in params),
                     tuple(renamed(part) for part in body))
                    for name, params, body in procedures])


def told(program):
    """What a run tells, or None if it takes too long."""
    try:
        return results(program, most=8, steps=3000)
    except TooMany:
        return None


class Together(unittest.TestCase):
    def test_texts_of_bridged_expressions(self):
        for seed in range(200):
            drawer = bare.Drawer(seed, atoms=(0, "0", "a, b)"))
            thing = drawer.drawn(4)
            env = {name: drawer.chance.sample([-1, 5, "", "(x := 1)", "0"],
                                              drawer.chance.randrange(5)) for name in "rst"}
            found = bridged(thing, env)
            text = expression_text(found)
            self.assertEqual(found, read_expression(text))
            program = read_program("to main()\n  out(" + text + ")")
            self.assertEqual(program, Program([("main", (), (("out", found),))]))
            answers = results(program, most=300)[0]
            self.assertEqual([list(worth) for worth, _ in row_of(thing, env)], self.worths(program))
            self.assertEqual(("failed",), answers[-1])

    def worths(self, program):
        run = Run(program)
        found = []
        while run.ask()[0] == "gave":
            found.append(run.worth()[1])
        return found

    def test_programs_renamed_and_read_from_their_texts(self):
        ran = 0
        for seed in range(150):
            program = drawn_program(seed)
            other = read_program(program_text(renamed_program(program)))
            self.assertEqual(renamed_program(program), other)
            first, second = told(program), told(other)
            self.assertEqual(first is None, second is None)
            if first is not None:
                ran += 1
                answers = [answer if answer[0] != "gave" else ("gave", renamed_words(answer[1])) for answer in first[0]]
                self.assertEqual((answers, [renamed_words(words) for words in first[1]]), second)
        self.assertGreater(ran, 100)

    def test_sessions_of_shortened_codes(self):
        ended = 0
        for seed in range(100):
            program = drawn_program(seed)
            first = told(program)
            if first is None:
                continue
            session = Session(shortened(compiled(program)))
            answers = []
            while len(answers) < len(first[0]) and len(session) < 4000:
                answer = session.step()
                if answer != ("went",):
                    answers.append(answer)
            if len(answers) == len(first[0]):
                ended += 1
                self.assertEqual(first, (answers, session.said()))
        self.assertGreater(ended, 60)

    def test_bridged_expressions_within_sessions(self):
        for seed in range(60):
            drawer = bare.Drawer(seed, atoms=(0,))
            thing = drawer.drawn(4)
            env = {name: drawer.chance.sample([0, 1, "0"], drawer.chance.randrange(4)) for name in "rst"}
            code = shortened(compiled(Program([("main", (), (("out", bridged(thing, env)),))])))
            session, run = Session(code), MachineRun(code)
            while not session.over():
                answer = session.step()
                if answer != ("went",):
                    self.assertEqual(run.ask(), answer)

    def test_steps_change_nothing_that_is_told(self):
        for seed in range(40):
            drawer = bare.Drawer(seed, rows="rs", most_names=2, names="xy", atoms=(0,))
            thing = drawer.drawn(5)
            for place, part, names in list(bare.parts(thing))[:6]:
                test = drawer.test(names)
                for step in ((place, "ahead", None), (place, "split", test), (place, "guard", test), (place, "drop",
                                                                                                      None)):
                    try:
                        other = stepped(thing, step)
                    except NoStep:
                        continue
                    self.assertTrue(always("same", thing, other))
                    self.assertTrue(is_chain(thing, other, [step]))
                    self.assertEqual(trace(thing), trace(other))


class AnyArguments(unittest.TestCase):
    """What [4] lets stand where an error is named."""

    def things(self):
        program = Program([("main", (), ())])
        code = Code(program, {"main": 0}, [("fail",)])
        deep = []
        for _ in range(19):
            deep = [deep, {"x": (deep[:0],)}] if len(repr(deep)) < 4000 else [deep]
        nested = {"r": ()}
        for number in range(17):
            nested = {"r": [nested], number: None, (number, None): "x"}
        return [None, True, False, 0, -1, 10 ** 600, "", "x" * 49000, "\x00", [], (), {}, deep, nested, [None] * 49000,
                (deep,) * 50, [("name", "x")] * 12000, dict.fromkeys(range(20000)), program, code, Session(code),
                Run(program),
                MachineRun(code), [program, code], {"r": program}, ("give", [Session(code)]), ("each", program, "r",
                                                                                               NONE),
                ("choice", deep, deep), ("alike", code, program), ((), program, None), ((), "split", ("alike", code,
                                                                                                      code)),
                ((), "word", (0, program)), [[program, {}, (), ()]], {"r": [program]}, {"r": [[]]}, {"r": [{}]}]

    def test_each_function(self):
        env = {"r": [1]}
        wide = last("v", atom(1), NONE)
        for thing in self.things():
            for work in (open_fault, is_open, trace, trace_paper):
                self.calm(work, thing)
            for work in (open_part, row_of, led, is_trace, is_trace_paper, stepped, back_step, chained, kinds, struck,
                         bridged):
                self.calm(work, ONE, thing)
                self.calm(work, thing, ONE)
                self.calm(work, wide, thing)
            self.calm(struck, env, thing)
            self.calm(follows, ONE, (3,), thing)
            self.calm(follows, ONE, thing, thing)
            for word in RELATIONS:
                for work in (always, against, enough):
                    self.calm(work, word, thing, ONE)
                    self.calm(work, word, ONE, thing)
                    self.calm(work, thing, ONE, ONE)
                self.calm(relates, word, ONE, ONE, thing)
                self.assertIs(False, is_against(word, ONE, ONE, thing))
            for word in QUALITIES:
                for work in (always_has, against_has):
                    self.calm(work, word, thing)
                    self.calm(work, thing, ONE)
                self.calm(has, word, ONE, thing)
                self.calm(enough, word, ONE, thing)
                self.assertIs(False, is_against_has(word, ONE, thing))
            self.calm(parting, ONE, NONE, thing)
            self.assertIs(False, is_parting(ONE, NONE, env, thing))
            self.assertIs(thing in ([], ()), is_chain(ONE, ONE, thing))
            self.calm(is_chain, thing, ONE, [])
            self.calm(Session(Code(Program([("main", (), ())]), {"main": 0}, [("fail",)])).until, thing)

    def calm(self, work, *given):
        """The call returns, or raises an error of the package."""
        try:
            work(*given)
        except TriedError as error:
            self.assertIs(TriedError, error.__class__.__base__)

    def test_errors_keep_copies(self):
        given = [3, ["x", {"y": [1]}]]
        for error, name, work in ((NoPlace, "path", lambda: open_part(ONE, given)), (NoStep, "wrong",
                                                                                     lambda: stepped(ONE, given)),
                                  (NoTest, "test", lambda: follows(ONE, (), given))):
            kept = getattr(raised(self, error, work), name)
            given[1][1]["y"].append(2)
            self.assertEqual([3, ["x", {"y": [1]}]], kept)
            given[1][1]["y"].pop()

    def test_deep_callers(self):
        deep = GIVE
        for _ in range(8):
            deep = when(deep, atom(1), atom(1))
        for name in "xyz":
            deep = each(name, "r", deep)
        lasting = ("choice", last("v", atom(1), NONE), GIVE)
        code = compiled(Program([("main", (), (("out", ("to", ("number", 1), ("number", 3))),))]))

        def work():
            session = Session(code)
            while session.step()[0] == "went":
                session.trial().held()
            session.back()
            return [always("same", deep, listed(deep)), stepped(deep, ((3, 3, 3, 2), "settle", None)),
                    trace_paper(lasting),
                    row_of(deep, {"r": [1, 2]}), bridged(each("x", "r", ("give", (X,))), {"r": [1]}),
                    raised(self, NoOpen, open_part, [[[[[[[[[[[]]]]]]]]]]], 1), raised(self, NoEnvironment, row_of,
                                                                                       ONE, deep),
                    raised(self, NoChain, chained, deep, [deep])]
        self.assertEqual(8, len(from_below(700, work)))


class Interface(unittest.TestCase):
    MODULES = {
        "errors": "TriedError", "programs": "Program is_expression walk part_at with_part",
        "texts": "expression_text program_text read_expression read_program", "runs": "Run results", "codes": "Code",
        "machine": "MachineRun marks_put", "compiling": "compiled shortened", "sessions": "Session traced",
        "opens": "open_fault is_open given_names row_names variables written most_names ways open_part",
        "openlead": "atoms_of row_of led relates has struck parting is_parting",
        "openverdicts": "always always_has enough kinds against against_has is_against is_against_has test_set",
        "opentraces": "trace is_trace trace_paper is_trace_paper",
        "opensteps": "follows stepped chained is_chain back_step", "bridge": "bridged"}

    def test_all_is_defined_where_it_is_listed(self):
        for file, names in self.MODULES.items():
            module = importlib.import_module("triedagain." + file)
            for name in names.split():
                thing = getattr(module, name)
                self.assertEqual("triedagain." + file, thing.__module__)
                self.assertEqual(name, thing.__name__)
                self.assertTrue(inspect.isclass(thing) == name[0].isupper())

    def test_an_expression_of_each_kind_is_none_of_the_other(self):
        self.assertFalse(is_expression(ONE) or is_open(("name", "x")) or is_open(("nothing",)))


if __name__ == "__main__":
    unittest.main()
