"""The steps of a run of a code, done once and never taken back.

What a step does hangs on nothing but the steps ahead of it. So all sessions that began as one share a tape, and each
of them needs to know only how many steps it has done: whatever one of them does, the others find the same. The tape
keeps what the run told and held behind each number of steps, so nobody who wants to know it has to change the run.
"""

from triedagain.engine import Engine, Frame, Tally
from triedagain.errors import TooMany
from triedagain.instructions import at_end, do_next
from triedagain.worths import Listing

MOST_WITHIN = 20000


class Tape:
    """A run that only goes on, and what it told and held behind its steps."""

    def __init__(self, code):
        self._engine = Engine(code)
        # What each step told.
        self.answers = []
        # Behind no step, one step and so on: what the strand of main held, and how many words were said.
        self.contents = [self._engine.strand.content()]
        self.words_many = [0]
        # The words themselves are never taken back.
        self.spoken = self._engine.spoken
        # The past of the frames, lists and counters.
        self.past = {}

    def step_behind(self, many):
        """What the step behind so many steps tells; TooMany if kept expressions do too much in it."""
        if many == len(self.answers):
            self._do_step()
        return self.answers[many]

    def _do_step(self):
        engine = self._engine
        noted = {}
        engine.noted = noted
        engine.note(engine)
        engine.note(engine.strand)
        is_done = _is_done(engine)
        engine.noted = None
        if not is_done:
            for thing in noted:
                thing.become(noted[thing])
            del self.spoken[self.words_many[-1]:]
            raise TooMany(MOST_WITHIN)
        self.answers.append(("went",) if engine.answer is None else engine.answer)
        self.contents.append(engine.strand.content())
        self.words_many.append(len(self.spoken))
        for thing in noted:
            # Nobody is told what the others hold.
            if isinstance(thing, (Frame, Listing, Tally)):
                rows = self.past.setdefault(thing, [(0, noted[thing])])
                rows.append((len(self.answers), thing.content()))


def _is_done(engine):
    """Does a step, and tells whether kept expressions did not do too much in it; if so, the step is half done."""
    if engine.answer is not None:
        engine.answer = None
        engine.go_back()
        return True
    _go_on(engine)
    done = 0
    while len(engine.around) > 0:
        if done == MOST_WITHIN and not at_end(engine):
            return False
        _go_on(engine)
        done += 1
    return True


def _go_on(engine):
    if at_end(engine):
        engine.end(("wrong", "code"))
    else:
        do_next(engine)
