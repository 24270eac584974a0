"""Sessions: runs of codes that are led step by step, and back."""

from triedagain.errors import BadPlace, NothingDone, Over, TooMany
from triedagain.limits import check_limit
from triedagain.shapes import is_integer
from triedagain.tape import Tape
from triedagain.tellings import WENT, all_told, is_over, told_depth, told_fences, told_held, told_look, told_marks
from triedagain.tellings import told_names, told_place, told_said

MOST_STEPS = 2000


class Session:
    """A run of a code that is led step by step; at first it stands ahead of the first instruction."""

    def __init__(self, code):
        self._code = code
        self._tape = Tape(code)
        # What the steps told that were done and not taken back; where it stands is told by their number.
        self._answers = []

    def step(self):
        if self.over():
            raise Over()
        answer = self._tape.step_behind(len(self._answers))
        self._answers.append(answer)
        return answer

    def until(self, place):
        if not is_integer(place) or not 0 <= place < len(self._code):
            raise BadPlace(place)
        for _ in range(MOST_STEPS):
            answer = self.step()
            if answer != WENT or self.place() == place:
                return answer
        raise TooMany(MOST_STEPS)

    def back(self):
        if len(self._answers) == 0:
            raise NothingDone()
        self._answers.pop()

    def trial(self):
        other = Session(self._code)
        other._tape = self._tape
        other._answers = list(self._answers)
        return other

    def place(self):
        return told_place(self._tape, len(self._answers))

    def held(self):
        return told_held(self._tape, len(self._answers))

    def fences(self):
        return told_fences(self._tape, len(self._answers))

    def marks(self):
        return told_marks(self._tape, len(self._answers))

    def names(self):
        return told_names(self._tape, len(self._answers))

    def look(self):
        return told_look(self._tape, len(self._answers))

    def said(self):
        return told_said(self._tape, len(self._answers))

    def depth(self):
        return told_depth(self._tape, len(self._answers))

    def over(self):
        return is_over(self._tape, len(self._answers))

    def __len__(self):
        return len(self._answers)

    def __eq__(self, other):
        if not isinstance(other, Session) or self._code != other._code:
            return False
        # Not by the methods: nothing that is handed in or held is called here.
        return all_told(self._tape, len(self._answers)) == all_told(other._tape, len(other._answers))

    def __enter__(self):
        return self

    def __exit__(self, kind, value, trace):
        pass


def traced(code, most):
    """The places of the first instructions that a session does, up to its first result."""
    check_limit(most, MOST_STEPS)
    session = Session(code)
    places = []
    # At the end of the code there is no instruction.
    while len(places) < most and session.place() != len(code):
        places.append(session.place())
        if session.step() != WENT:
            break
    return places
