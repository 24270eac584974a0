"""Sessions: runs of codes that are led step by step, and back."""

from triedagain.engine import Tally
from triedagain.errors import BadPlace, NothingDone, Over, TooMany
from triedagain.limits import check_limit
from triedagain.shapes import is_integer
from triedagain.tape import Tape
from triedagain.worths import told

WENT = ("went",)
MOST_STEPS = 2000


class Session:
    """A run of a code that is led step by step; at first it stands ahead of the first instruction."""

    def __init__(self, code):
        self._code = code
        self._tape = Tape(code)
        # What the steps told that were done and not taken back.
        self._answers = []

    def step(self):
        if self.over():
            raise Over()
        answer = self._tape.step_behind(len(self._answers))
        self._answers.append(answer)
        return answer

    def until(self, place):
        if not is_integer(place) or not 0 <= place < len(self._code):
            raise BadPlace(place)
        for _ in range(MOST_STEPS):
            answer = self.step()
            if answer != WENT or self.place() == place:
                return answer
        raise TooMany(MOST_STEPS)

    def back(self):
        if len(self._answers) == 0:
            raise NothingDone()
        self._answers.pop()

    def trial(self):
        other = Session(self._code)
        other._tape = self._tape
        other._answers = list(self._answers)
        return other

    def place(self):
        return self._machine().strand.next_place if self._is_running() else None

    def held(self):
        if not self._is_running():
            return []
        return [_told_item(item) for item in self._machine().strand.held_row]

    def fences(self):
        return list(self._machine().strand.fence_row) if self._is_running() else []

    def marks(self):
        found = []
        left = self._machine().strand.mark_chain
        while left is not None:
            mark, left = left
            found.append(_told_mark(mark))
        found.reverse()
        return found

    def names(self):
        if not self._is_running():
            return {}
        given = self._machine().strand.frame.given
        return {name: told(given[name]) for name in given}

    def look(self):
        return self._machine().strand.look_now

    def said(self):
        return self._tape.said_behind(len(self._answers))

    def depth(self):
        return self._machine().strand.depth() if self._is_running() else 0

    def over(self):
        return len(self._answers) > 0 and self._answers[-1][0] in ("failed", "wrong")

    def _is_running(self):
        """Whether there is a frame: no result is out, and the run is not over."""
        return len(self._answers) == 0 or self._answers[-1] == WENT

    def _machine(self):
        """The engine as it stands for this session."""
        return self._tape.engine_behind(len(self._answers))

    def __len__(self):
        return len(self._answers)

    def __eq__(self, other):
        if not isinstance(other, Session) or self._code != other._code:
            return False
        return [self.place(), self.held(), self.fences(), self.marks(), self.names(), self.look(), self.said(),
                self.depth(), self.over()] == [other.place(), other.held(), other.fences(), other.marks(),
                                               other.names(), other.look(), other.said(), other.depth(), other.over()]

    def __enter__(self):
        return self

    def __exit__(self, kind, value, trace):
        pass


def _told_item(item):
    return ("counter", item.count) if isinstance(item, Tally) else told(item)


def _told_mark(mark):
    """What a mark of the engine is told as."""
    if mark[0] in ("retry", "more"):
        return (mark[0], mark[1][1])
    if mark[0] == "unlend":
        return ("unlend", mark[2])
    return ("look", mark[1][1])


def traced(code, most):
    """The places of the first instructions that a session does, up to its first result."""
    check_limit(most, MOST_STEPS)
    session = Session(code)
    places = []
    # At the end of the code there is no instruction.
    while len(places) < most and session.place() != len(code):
        places.append(session.place())
        if session.step() != WENT:
            break
    return places
