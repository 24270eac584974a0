"""[6]: no recursion, however long a run is and however deep the caller stands."""

import gc
import unittest

from triedagain.codes import Code
from triedagain.compiling import compiled, shortened
from triedagain.errors import TooMany
from triedagain.machine import MachineRun, marks_put
from triedagain.programs import Program, is_expression
from triedagain.runs import Run, results
from tests.samples import raised
from tests.telling import DEEP, FAILED, program_of, runs_of

ONE, N = ("number", 1), ("name", "n")
# Around an expression one more, in which it is asked.
SHAPES = (
    lambda e: ("list", (ONE, ONE, ONE, e)), lambda e: ("op", ".", ("text", "a"), e), lambda e: ("test", "isnt", ONE, e),
    lambda e: ("or", ("test", "<", ONE, ONE), e), lambda e: ("and", ONE, e), lambda e: ("first", e),
          lambda e: ("no", e),
    lambda e: ("if", e, ONE, ONE), lambda e: ("if", ONE, e, ONE), lambda e: ("most", 2, e), lambda e: ("again", e),
    lambda e: ("items", e), lambda e: ("give", "x", e), lambda e: ("lend", "x", e), lambda e: ("every", e, ONE),
    lambda e: ("every", ONE, e), lambda e: ("while", e, ("fall",)), lambda e: ("do", (ONE, ONE, e)),
    lambda e: ("do", (e, ONE)), lambda e: ("call", ("name", "g"), (e,)), lambda e: ("back", e), lambda e: ("out", e),
    lambda e: ("ask", e), lambda e: ("scan", ("text", "abc"), e), lambda e: ("find", e), lambda e: ("match", e),
    lambda e: ("many", e), lambda e: ("reach", e), lambda e: ("put", ("list", ()), e), lambda e: ("size", e),
    lambda e: ("at", e, ("number", 0)), lambda e: ("place", ("list", (ONE,)), ("number", 0), e), lambda e: ("say", e),
    lambda e: ("move", e), lambda e: ("tab", e), lambda e: ("take", e), lambda e: ("anew", e), lambda e: ("to", ONE, e),
)


def kept(e):
    """The same, but with an ask more that counts for the depth."""
    return ("ask", ("keep", e))


def from_below(frames, work):
    """Does the work where the caller stands in so many frames."""
    if frames == 0:
        return work()
    return from_below(frames - 1, work)


class Deep(unittest.TestCase):
    def ways(self, program):
        code = compiled(program)
        short = shortened(code)
        answers = [results(program, most=2)[0][0]]
        for run in (Run(program), MachineRun(code), MachineRun(short)):
            answers.append(run.ask())
            run.said()
        marks_put(short, 2)
        return answers

    def test_calls_12_deep_with_each_kind_nested_8_deep(self):
        for number, shape in enumerate(SHAPES + (kept,)):
            inner = ("call", ("name", "f"), (("op", "-", N, ONE),))
            while is_expression(("out", shape(inner))):
                inner = shape(inner)
            body = (("if", ("test", "<", ("number", 0), N), ONE, ("back", ("text", "ab"))), ("out", inner))
            for start in (10, 11):
                program = Program([("main", (), (("out", ("call", ("name", "f"), (("number", start),))),)),
                                   ("f", ("n",), body), ("g", ("n",), (("out", N),))])
                with self.subTest(number=number, start=start):
                    answers = from_below(600, lambda: self.ways(program))
                    self.assertEqual([answers[0]] * 4, answers)
                    self.assertEqual(start == 11 or shape == kept, answers[0] == DEEP)

    def test_expressions_8_deep(self):
        for shape in SHAPES + (kept,):
            inner = ("here",)
            while is_expression(shape(inner)):
                inner = shape(inner)
            program = Program([("main", (), (inner,)), ("g", ("n",), (("out", N),))])
            code = from_below(700, lambda: compiled(program))
            from_below(700, lambda: shortened(code))
            run = MachineRun(code)
            self.assertEqual(Run(program).ask(), from_below(700, run.ask))


class Long(unittest.TestCase):
    def test_loops_of_thousands_of_rounds(self):
        for lines in (("(n := 0)", "while(((n := (n + 1)) < 5000), n)", "out(n)"),
                      ("(n := 0)", "every((1 to 5000), (n := (n + 1)))", "out(n)"),
                      ("(n := 0)", "while(again(((n := (n + 1)) < 0)), 1)", "every(again((n < 5000)), "
                       "if((5000 <= (n := (n + 1))), back(n), 1))"),
                      ("(n := 0)", "every(most(20, again(((1 to 9) to 9))), 1)", "(k := keep((1 to 5000)))",
                       "while((n := ask(k)), 1)", "out(n)")):
            lines = [line.replace("5000", "(999 * 3)") for line in lines]
            for run in runs_of(program_of(*lines)):
                self.assertEqual(("gave", "2997"), from_below(500, lambda: run.ask(steps=100000)), lines)

    def test_rows_of_thousands_of_results(self):
        program = program_of("out(((0 to 4) & (1 to (999 * 2))))")
        for run in runs_of(program):
            for _ in range(5):
                for number in range(1, 1999):
                    self.assertEqual(("gave", str(number)), run.ask(steps=100))
            self.assertEqual(FAILED, run.ask())
        answers, said = results(program_of("out(again(say(1)))"), most=5000)
        self.assertEqual([("gave", "1")] * 5000, answers)
        self.assertEqual(["1"] * 5000, said)

    def test_a_hundred_thousand_steps(self):
        for lines in (("while(1, (l := [l]))",), ("(k := keep(0))", "while(1, (k := keep(k)))"),
                      ("(again((x <- [x])) & no(1))",), ("every(again(1), (x <- 1))",),
                      ("(again(call(f)) & no(1))", "to f()", "out(1)"),
                      ("(again(scan('ab', (move(1) | 2))) & no(1))",)):
            for run in runs_of(program_of(*lines)):
                raised(self, TooMany, run.ask, steps=100000)
                del run
                gc.collect()

    def test_a_hundred_thousand_marks(self):
        one = Program([("main", (), ())])
        run = MachineRun(Code(one, {"main": 0}, [("retry", 2), ("jump", 0), ("fail",)]))
        raised(self, TooMany, run.ask, steps=100000)
        rows = [("counter",), ("worth", 1), ("worth", 999), ("rows", "to"), ("lend", "x"), ("drop",), ("retry", 12),
                ("name", "x"), ("worth", 999), ("deed", "="), ("out",), ("fail",), ("fail",)]
        run = MachineRun(Code(one, {"main": 0}, rows))
        self.assertEqual(("gave", "999"), run.ask())
        # Thousands of marks that are gone back over at once.
        rows = [("worth", 0), ("give", "n"), ("lend", "x"), ("worth", 1), ("deed", "+"), ("give", "n"), ("retry", 12),
                ("worth", 999), ("deed", "<"), ("drop",), ("name", "n"), ("jump", 2), ("worth", 5), ("out",), ("fail",)]
        run = MachineRun(Code(one, {"main": 0}, rows))
        self.assertEqual(("gave", "5"), run.ask())

    def test_things_within_things_are_let_go(self):
        for lines in (("every((1 to (999 * 9)), (l := [l]))", "out(l)"),
                      ("every((1 to (999 * 9)), (k := keep(k)))", "out(k)")):
            for run in runs_of(program_of(*lines)):
                self.assertEqual("gave", run.ask(steps=100000)[0])
                run.worth()
                del run
                gc.collect()


if __name__ == "__main__":
    unittest.main()
