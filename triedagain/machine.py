"""Runs of codes by the machine."""

from triedagain.engine import Engine
from triedagain.errors import TooMany
from triedagain.instructions import at_end, do_next
from triedagain.limits import check_limit, told_result

MOST_ASKS = 1000


class MachineRun:
    """A run of a code; it begins at the entry of main."""

    def __init__(self, code):
        self._engine = Engine(code)
        # Whether an ask needed too many steps: then nobody knows how the run would go on.
        self._lost = False

    def ask(self, *, steps=100000):
        check_limit(steps)
        if self._lost or not _answered(self._engine, steps):
            self._lost = True
            raise TooMany(steps)
        return self._engine.answer

    def said(self):
        return list(self._engine.spoken)

    def worth(self):
        return told_result(self._engine.answer, self._engine.result)


def _answered(engine, steps):
    """Has the engine tell its next answer, and tells whether so many steps were enough."""
    if engine.answer is not None:
        if engine.answer[0] != "gave":
            return True
        engine.answer = None
        engine.go_back()
    done = 0
    while engine.answer is None:
        if at_end(engine):
            engine.end(("wrong", "code"))
        elif done == steps:
            return False
        else:
            do_next(engine)
            done += 1
    return True


def marks_put(code, asks, *, steps=100000):
    """The number of marks that instructions put on in a run of so many asks."""
    check_limit(asks, MOST_ASKS)
    check_limit(steps)
    engine = Engine(code)
    for _ in range(asks):
        if not _answered(engine, steps):
            raise TooMany(steps)
    return engine.marked
