"""The machine: its frame, its stand and its marks, and how it goes back.

The rows of a stand are tuples, so that marks and ways back hold them as they were. A mark is ("retry", standing),
("more", standing, row of results), ("unlend", frame, name, what it had) or ("look", look), where standing is frame,
place and stand.
"""

from triedagain.deeds import next_of
from triedagain.worths import Wrong, give_back, routines_of, words_of

MOST_HELD = 60
NOWHERE = ("", 0)


class Tally:
    """Counts how often something gave; it stands among the worths held, but is none."""

    def __init__(self):
        self.count = 0


class Frame:
    """The names of a procedure or a kept expression, and where its caller goes on."""

    def __init__(self, given, way, floor):
        self.given = given
        # None, or the caller's frame, place and stand.
        self.way = way
        # The number of marks when it began.
        self.floor = floor


class Strand:
    """What has marks and a look of its own: the run of main, or that of a kept expression."""

    def __init__(self, given, place):
        self.frame = Frame(given, None, 0)
        self.place = place
        self.held = ()
        self.fences = ()
        self.scans = ()
        self.marks = []
        self.look = NOWHERE

    def standing(self):
        """Frame, place and stand, as marks and ways back hold them."""
        return (self.frame, self.place, (self.held, self.fences, self.scans))

    def stand_again(self, standing):
        self.frame, self.place, stand = standing
        self.held, self.fences, self.scans = stand

    def cut(self, many):
        """Takes all marks beyond so many off."""
        del self.marks[many:]

    def depth(self):
        """The number of frames from the one that runs along the ways back."""
        many = 1
        way = self.frame.way
        while way is not None:
            many += 1
            way = way[0].way
        return many


class Engine:
    """A run of a code: the strand that runs, and around it those that wait for what they ask."""

    def __init__(self, code):
        program = code.program()
        self.instructions = code.rows()
        self.entries = {name: code.entry(name) for name in program.names()}
        self.routines = routines_of(program)
        self.strand = Strand({}, self.entries["main"])
        # Each strand that waits, with the kept expression that it asks.
        self.around = []
        self.spoken = []
        # How many marks instructions have put on.
        self.marked = 0
        # What is told behind the last instruction: None as long as the run goes on.
        self.answer = None
        self.result = None

    def depth(self):
        """The number of calls and asks within one another."""
        return self.strand.depth() + sum([strand.depth() for strand, _ in self.around])

    def take(self, many):
        """Takes so many worths off the end of those held."""
        strand = self.strand
        first = len(strand.held) - many
        if first < 0:
            raise Wrong("code")
        worths = strand.held[first:]
        if any([isinstance(worth, Tally) for worth in worths]):
            raise Wrong("code")
        strand.held = strand.held[:first]
        return worths

    def put(self, item):
        strand = self.strand
        if len(strand.held) >= MOST_HELD:
            raise Wrong("code")
        strand.held = strand.held + (item,)

    def put_mark(self, mark):
        strand = self.strand
        strand.marks.append(mark)
        self.marked += 1

    def put_look_mark(self):
        self.put_mark(("look", self.strand.look))

    def give(self, worth):
        """The run has this result."""
        self.result = worth
        self.answer = ("gave", words_of(worth))

    def end(self, answer):
        """The run is over, and nothing is left but what was said."""
        nothing = Strand({}, 0)
        nothing.frame = None
        self.strand = nothing
        self.around = []
        self.answer = answer

    def leave_kept(self):
        """Goes on with the strand that asked the kept expression which runs."""
        strand, kept = self.around.pop()
        kept.busy = False
        self.strand = strand

    def go_back(self):
        while True:
            if len(self.strand.marks) > 0:
                if self._back_to(self.strand.marks.pop()):
                    return
            elif len(self.around) > 0:
                # The kept expression failed, so the ask goes back as well.
                self.leave_kept()
            else:
                self.end(("failed",))
                return

    def _back_to(self, mark):
        """Does what a mark tells that was taken off; whether the run goes on there."""
        kind = mark[0]
        strand = self.strand
        if kind == "unlend":
            _, frame, name, had = mark
            give_back(name, frame.given, had)
            return False
        if kind == "look":
            strand.look = mark[1]
            return False
        if kind == "retry":
            strand.stand_again(mark[1])
            return True
        found = next_of(mark[2])
        if found is None:
            return False
        worth, rest = found
        strand.marks.append(("more", mark[1], rest))
        strand.stand_again(mark[1])
        self.put(worth)
        return True
