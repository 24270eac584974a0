"""The steps of a run of a code, done once and taken back and forth.

What a step does hangs on nothing but the steps ahead of it. So all sessions that began as one share a tape, and each
of them needs to know only how many steps it has done: whatever one of them does, the others find the same.
"""

from triedagain.engine import Engine
from triedagain.errors import TooMany
from triedagain.instructions import at_end, do_next

MOST_WITHIN = 20000


class Tape:
    """A run, and for each step what the things that it changed held ahead of it and behind it."""

    def __init__(self, code):
        self._engine = Engine(code)
        # How many of the steps are done in the engine as it stands.
        self._at = 0
        # For each step a row of (thing, what it held ahead, what it held behind), and what the step told.
        self._changes = []
        self._answers = []
        # How many words were said behind no step, one step and so on; the words themselves are never taken back.
        self._words = [0]

    def engine_behind(self, many):
        """The engine as it stands behind so many steps; it may be read until the tape is asked for something else."""
        while self._at > many:
            self._at -= 1
            for thing, ahead, _ in self._changes[self._at]:
                thing.become(ahead)
        while self._at < many:
            for thing, _, behind in self._changes[self._at]:
                thing.become(behind)
            self._at += 1
        return self._engine

    def said_behind(self, many):
        return self._engine.spoken[:self._words[many]]

    def step_behind(self, many):
        """What the step behind so many steps tells; TooMany if kept expressions do too much in it."""
        if many == len(self._changes):
            self._do_step(self.engine_behind(many))
        return self._answers[many]

    def _do_step(self, engine):
        noted = {}
        engine.noted = noted
        engine.note(engine)
        engine.note(engine.strand)
        is_done = _is_done(engine)
        engine.noted = None
        if not is_done:
            for thing in noted:
                thing.become(noted[thing])
            del engine.spoken[self._words[-1]:]
            raise TooMany(MOST_WITHIN)
        self._changes.append([(thing, noted[thing], thing.content()) for thing in noted])
        self._answers.append(("went",) if engine.answer is None else engine.answer)
        self._words.append(len(engine.spoken))
        self._at += 1


def _is_done(engine):
    """Does a step, and tells whether kept expressions did not do too much in it; if so, the step is half done."""
    if engine.answer is not None:
        engine.answer = None
        engine.go_back()
        return True
    _go_on(engine)
    done = 0
    while len(engine.around) > 0:
        if done == MOST_WITHIN and not at_end(engine):
            return False
        _go_on(engine)
        done += 1
    return True


def _go_on(engine):
    if at_end(engine):
        engine.end(("wrong", "code"))
    else:
        do_next(engine)
