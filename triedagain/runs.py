"""Runs of programs by their plain meaning."""

from triedagain.askings import AGAIN, GAVE, Asker
from triedagain.choices import ON_ASKED, choose
from triedagain.errors import TooMany
from triedagain.limits import check_limit, told_result
from triedagain.strict import advance
from triedagain.worths import Wrong, words_of


class Run:
    """A run of a program; main is called without arguments."""

    def __init__(self, program):
        self._asker = Asker(program)
        self._main = self._asker.asking
        self._answer = None
        self._result = None
        # Whether an ask needed too many steps: then nobody knows how the run would go on.
        self._lost = False

    def ask(self, *, steps=20000):
        check_limit(steps)
        if self._lost:
            raise TooMany(steps)
        if self._answer is None or self._answer[0] == "gave":
            self._go_on(steps)
        return self._answer

    def _go_on(self, steps):
        """Has main give its next result."""
        asker = self._asker
        if self._answer is not None:
            asker.let(AGAIN, self._main)
        asker.steps = 0
        try:
            self._lost = not _finished(asker, steps)
        except Wrong as wrong:
            self._answer = ("wrong", wrong.reason)
            return
        if self._lost:
            raise TooMany(steps)
        self._result = asker.handed
        self._answer = ("gave", words_of(self._result)) if asker.turn == GAVE else ("failed",)

    def said(self):
        return list(self._asker.spoken)

    def worth(self):
        return told_result(self._answer, self._result)


def _finished(asker, steps):
    """Lets the askings have their turns until main gave or failed, and tells whether so many steps were enough."""
    while asker.asking is not None:
        if asker.steps > steps:
            return False
        if asker.asking.word in ON_ASKED:
            choose(asker.turn, asker, asker.asking, asker.handed)
        else:
            advance(asker.turn, asker, asker.asking, asker.handed)
    return True


def results(program, *, most=50, steps=20000):
    """What a run tells, up to so many results, and all that it said."""
    check_limit(most)
    check_limit(steps)
    run = Run(program)
    answers = []
    while len(answers) < most and (len(answers) == 0 or answers[-1][0] == "gave"):
        answers.append(run.ask(steps=steps))
    return (answers, run.said())
