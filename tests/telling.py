"""Runs a program in all ways that there are, and compares what they tell with what is awaited."""

import unittest

from triedagain.compiling import compiled, shortened
from triedagain.machine import MachineRun
from triedagain.runs import Run
from triedagain.texts import read_program

FAILED = ("failed",)
KIND, GREAT, COUNT = ("wrong", "kind"), ("wrong", "great"), ("wrong", "count")
DEEP, BUSY, CODE = ("wrong", "deep"), ("wrong", "busy"), ("wrong", "code")
MILLION = "((999 + 1) * (999 + 1))"
BILLION = "(" + MILLION + " * (999 + 1))"
TWENTY = "abcdefghijklmnopqrst"
SIXTY = "(('" + TWENTY + "' . '" + TWENTY + "') . '" + TWENTY + "')"


def program_of(*lines):
    """The program of these lines: those of the body of main, unless the first one begins a procedure."""
    if not lines or not lines[0].startswith("to "):
        lines = ("to main()",) + lines
    return read_program("\n".join(line if line.startswith("to ") else "  " + line for line in lines))


def runs_of(program):
    code = compiled(program)
    return [Run(program), MachineRun(code), MachineRun(shortened(code))]


class Telling(unittest.TestCase):
    def tells(self, lines, *answers, said=None):
        """Each answer is the words of a result, or FAILED or the like."""
        lines = (lines,) if isinstance(lines, str) else lines
        awaited = [("gave", answer) if isinstance(answer, str) else answer for answer in answers]
        for run in runs_of(program_of(*lines)):
            found = [run.ask() for _ in awaited]
            self.assertEqual(awaited, found, (lines, run))
            if said is not None:
                self.assertEqual(said, run.said(), (lines, run))

    def gives(self, expression, *answers, said=None):
        """Tells all results of an expression of one program without names, up to failing."""
        self.tells("out(" + expression + ")", *answers, FAILED, said=said)

    def is_wrong(self, expression, reason, said=None):
        self.tells("out(" + expression + ")", reason, reason, said=said)

    def is_told(self, lines, told):
        """The first result is told as this."""
        lines = (lines,) if isinstance(lines, str) else lines
        for run in runs_of(program_of(*lines)):
            self.assertEqual("gave", run.ask()[0])
            self.assertEqual(told, run.worth())
            self.assertEqual(repr(told), repr(run.worth()))
