"""[24] to [26]: runs, what they tell, and their limits; the same for runs of codes where [31] says so."""

import inspect
import unittest

from triedagain import machine, runs
from triedagain.compiling import compiled, shortened
from triedagain.errors import BadLimit, NoResult, TooMany
from triedagain.machine import MachineRun
from triedagain.runs import Run, results
from tests.samples import raised
from tests.telling import FAILED, KIND, program_of, runs_of

NO_LIMITS = (0, -1, 100001, 10 ** 30, True, False, None, "", "1", [], [1], (1,), {}, {1: 1}, ("gave", 1))
ENDLESS = ("to main()", "out(1)", "while(1, 2)", "out(3)")


class Asking(unittest.TestCase):
    def test_results_and_the_end(self):
        for run in runs_of(program_of("out((1 to 2))")):
            self.assertEqual(("gave", "1"), run.ask())
            self.assertEqual(("gave", "2"), run.ask(steps=1000))
            for _ in range(3):
                self.assertEqual(FAILED, run.ask())
                self.assertEqual(FAILED, run.ask(steps=1))

    def test_wrong_ever_after(self):
        for run in runs_of(program_of("out(1)", "(1 + 'a')", "out(2)")):
            self.assertEqual(("gave", "1"), run.ask())
            for _ in range(3):
                self.assertEqual(KIND, run.ask())
                self.assertEqual(KIND, run.ask(steps=1))

    def test_runs_do_not_touch_each_other(self):
        program = program_of("(l := [])", "out(put(l, (1 to 3)))")
        code = compiled(program)
        for made in (lambda: Run(program=program), lambda: MachineRun(code=code)):
            first, second = made(), made()
            self.assertEqual(("gave", "[1]"), first.ask())
            self.assertEqual(("gave", "[1, 2]"), first.ask())
            self.assertEqual(("gave", "[1]"), second.ask())

    def test_no_result(self):
        for run in runs_of(program_of("out(7)")):
            raised(self, NoResult, run.worth)
            run.ask()
            self.assertEqual([7, 7], [run.worth(), run.worth()])
            run.ask()
            raised(self, NoResult, run.worth)
            run.ask()
            raised(self, NoResult, run.worth)
        for run in runs_of(program_of("(1 + nothing)")):
            run.ask()
            raised(self, NoResult, run.worth)
        for run in runs_of(program_of("fall")):
            run.ask()
            raised(self, NoResult, run.worth)

    def test_nothing_is_a_result(self):
        for run in runs_of(program_of("out(nothing)")):
            run.ask()
            self.assertIsNone(run.worth())

    def test_said_so_far(self):
        for run in runs_of(program_of("say('a')", "out(say(1))", "out(2)", "say('b')")):
            self.assertEqual([], run.said())
            run.ask()
            self.assertEqual(["a", "1"], run.said())
            run.ask()
            self.assertEqual(["a", "1"], run.said())
            run.ask()
            self.assertEqual(["a", "1", "b"], run.said())
            run.ask()
            self.assertEqual(["a", "1", "b"], run.said())

    def test_what_the_caller_changes_is_not_that_of_the_run(self):
        for run in runs_of(program_of("(l := [1, [2]])", "out(say(l))", "put(l, 3)", "out(l)")):
            run.ask()
            run.said().append("x")
            run.said().clear()
            self.assertEqual(["[1, [..]]"], run.said())
            told = run.worth()
            self.assertEqual(("list", [1, ("list", 1)]), told)
            told[1].append(9)
            told[1][0] = "x"
            self.assertEqual(("list", [1, ("list", 1)]), run.worth())
            self.assertEqual(("gave", "[1, [..], 3]"), run.ask())
            self.assertEqual(("list", [1, ("list", 1), 3]), run.worth())


class Limits(unittest.TestCase):
    def test_what_is_no_limit(self):
        for run in runs_of(program_of("out((1 to 2))")):
            for steps in NO_LIMITS:
                raised(self, BadLimit, run.ask, steps=steps)
            self.assertEqual(("gave", "1"), run.ask(steps=100000))
            for steps in NO_LIMITS:
                raised(self, BadLimit, run.ask, steps=steps)
            self.assertEqual(1, run.worth())
            self.assertEqual(("gave", "2"), run.ask())
            self.assertEqual(FAILED, run.ask())
            for steps in NO_LIMITS:
                raised(self, BadLimit, run.ask, steps=steps)
            self.assertEqual(FAILED, run.ask(steps=1))

    def test_too_many_now_and_at_each_later_ask(self):
        for run in runs_of(program_of(*ENDLESS)):
            self.assertEqual(("gave", "1"), run.ask())
            self.assertEqual(1000, raised(self, TooMany, run.ask, steps=1000).limit)
            self.assertEqual(7, raised(self, TooMany, run.ask, steps=7).limit)
            self.assertEqual(100000, raised(self, TooMany, run.ask, steps=100000).limit)
            for steps in NO_LIMITS:
                raised(self, BadLimit, run.ask, steps=steps)
            self.assertEqual(3, raised(self, TooMany, run.ask, steps=3).limit)

    def test_the_limits_that_go_without_saying(self):
        program = program_of(*ENDLESS)
        run = Run(program)
        run.ask()
        self.assertEqual(20000, raised(self, TooMany, run.ask).limit)
        run = MachineRun(compiled(program))
        run.ask()
        self.assertEqual(100000, raised(self, TooMany, run.ask).limit)
        self.assertEqual(20000, raised(self, TooMany, results, program).limit)

    def test_each_ask_counts_for_itself(self):
        for run in runs_of(program_of("out((1 to 200))")):
            for number in range(1, 201):
                self.assertEqual(("gave", str(number)), run.ask(steps=30))

    def test_a_step_is_an_asking(self):
        # Each round asks two expressions, and the row of numbers is asked again: three steps for each of them.
        for rounds in (10, 300):
            program = program_of(f"every((1 to {rounds}), [1])", "out(1)")
            self.assertEqual(("gave", "1"), Run(program).ask(steps=30 * rounds + 100))
            raised(self, TooMany, Run(program).ask, steps=max(1, 3 * rounds // 10 - 1))

    def test_askings_within_calls_and_kept_ones_count(self):
        for lines in (("call(f)", "out(1)", "to f()", "every((1 to 300), 1)"),
                      ("ask(keep(every((1 to 300), 1)))", "out(1)")):
            program = program_of(*lines)
            self.assertEqual(("gave", "1"), Run(program).ask(steps=9100))
            raised(self, TooMany, Run(program).ask, steps=60)

    def test_an_error_ahead_of_the_limit(self):
        for run in runs_of(program_of("(1 + 'a')")):
            self.assertEqual(KIND, run.ask(steps=40))


class Results(unittest.TestCase):
    def test_up_to_the_end(self):
        found = results(program_of("out(say((1 to 2)))"))
        self.assertEqual(([("gave", "1"), ("gave", "2"), FAILED], ["1", "2"]), found)
        self.assertIsInstance(found, tuple)
        self.assertIsInstance(found[0], list)
        self.assertIsInstance(found[1], list)
        self.assertEqual(([("gave", "1"), KIND], []), results(program_of("out(1)", "(1 + 'a')")))
        self.assertEqual(([FAILED], ["x"]), results(program_of("say('x')")))

    def test_up_to_most(self):
        program = program_of("out(say((1 to 200)))")
        for most in (1, 2, 50, 51, 200):
            answers, said = results(program, most=most)
            self.assertEqual([("gave", str(n)) for n in range(1, most + 1)], answers)
            self.assertEqual([str(n) for n in range(1, most + 1)], said)
        self.assertEqual(50, len(results(program)[0]))
        self.assertEqual(201, len(results(program, most=100000, steps=100000)[0]))
        self.assertEqual(FAILED, results(program=program, most=201)[0][-1])

    def test_limits(self):
        program = program_of(*ENDLESS)
        for limit in NO_LIMITS:
            raised(self, BadLimit, results, program, most=limit)
            raised(self, BadLimit, results, program, steps=limit)
            raised(self, BadLimit, results, program, most=limit, steps=limit)
        self.assertEqual([("gave", "1")], results(program, most=1)[0])
        self.assertEqual(500, raised(self, TooMany, results, program, most=2, steps=500).limit)

    def test_each_call_makes_new_lists(self):
        program = program_of("out(say(1))")
        answers, said = results(program)
        answers.clear()
        said.clear()
        self.assertEqual(([("gave", "1"), FAILED], ["1"]), results(program))


class Interface(unittest.TestCase):
    def test_names_and_arguments(self):
        for kind, steps in ((Run, 20000), (MachineRun, 100000)):
            for name in ("ask", "said", "worth"):
                self.assertIn(name, vars(kind))
            parameter = inspect.signature(kind.ask).parameters["steps"]
            self.assertEqual(parameter.KEYWORD_ONLY, parameter.kind)
            self.assertEqual(steps, parameter.default)
        self.assertEqual(["program"], list(inspect.signature(Run).parameters))
        self.assertEqual(["code"], list(inspect.signature(MachineRun).parameters))
        parameters = inspect.signature(results).parameters
        self.assertEqual([("program", inspect.Parameter.empty), ("most", 50), ("steps", 20000)],
                         [(name, parameters[name].default) for name in parameters])
        parameters = inspect.signature(machine.marks_put).parameters
        self.assertEqual([("code", inspect.Parameter.empty), ("asks", inspect.Parameter.empty), ("steps", 100000)],
                         [(name, parameters[name].default) for name in parameters])
        self.assertEqual([["program"], ["code"]],
                         [list(inspect.signature(work).parameters) for work in (compiled, shortened)])
        for module, names in ((runs, ("Run", "results")), (machine, ("MachineRun", "marks_put"))):
            for name in names:
                self.assertEqual(module.__name__, getattr(module, name).__module__)


if __name__ == "__main__":
    unittest.main()
