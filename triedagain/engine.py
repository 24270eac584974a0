"""The machine: its frame, its stand and its marks, and how it goes back.

The rows of a stand are tuples, so that marks and ways back hold them as they were. A mark is ("retry", standing),
("more", standing, row of results), ("unlend", frame, name, what it had) or ("look", look), where standing is frame,
place and stand.

What changes while the machine runs tells what it holds by content(), and becomes again what it was by become(): so
whoever wants to take an instruction back, or to know what was ahead of it, has the engine note what things held then.
"""

from triedagain.deeds import next_of
from triedagain.worths import Wrong, give_back, routines_of, words_of

MOST_HELD = 60
NOWHERE = ("", 0)


class Tally:
    """Counts how often something gave; it stands among the worths held, but is none."""

    def __init__(self):
        self.count = 0

    def content(self):
        return self.count

    def become(self, content):
        self.count = content


class Frame:
    """The names of a procedure or a kept expression, and where its caller goes on."""

    def __init__(self, given, way, floor):
        self.given = given
        # None, or the caller's frame, place and stand.
        self.way = way
        # The number of marks when it began.
        self.floor = floor

    def content(self):
        return dict(self.given)

    def become(self, content):
        self.given = dict(content)


class Strand:
    """What has marks and a look of its own: the run of main, or that of a kept expression."""

    def __init__(self, given, place):
        self.frame = Frame(given, None, 0)
        self.next_place = place
        self.held_row = ()
        self.fence_row = ()
        self.scans = ()
        # The newest mark and those ahead of it, as (mark, older ones), or None: so they are held as they are without
        # a copy.
        self.mark_chain = None
        self.marks_many = 0
        self.look_now = NOWHERE

    def content(self):
        return (self.standing(), self.mark_chain, self.marks_many, self.look_now)

    def become(self, content):
        standing, self.mark_chain, self.marks_many, self.look_now = content
        self.stand_again(standing)

    def standing(self):
        """Frame, place and stand, as marks and ways back hold them."""
        return (self.frame, self.next_place, (self.held_row, self.fence_row, self.scans))

    def stand_again(self, standing):
        self.frame, self.next_place, stand = standing
        self.held_row, self.fence_row, self.scans = stand

    def put_mark(self, mark):
        self.mark_chain = (mark, self.mark_chain)
        self.marks_many += 1

    def take_mark(self):
        """Takes the newest mark off."""
        mark, self.mark_chain = self.mark_chain
        self.marks_many -= 1
        return mark

    def cut(self, many):
        """Takes all marks beyond so many off."""
        while self.marks_many > many:
            self.take_mark()


def frames_from(frame):
    """The number of frames from this one along the ways back; none for None."""
    many = 0
    while frame is not None:
        many += 1
        frame = None if frame.way is None else frame.way[0]
    return many


class Engine:
    """A run of a code: the strand that runs, and around it those that wait for what they ask."""

    def __init__(self, code):
        program = code.program()
        self.instructions = code.rows()
        self.entries = {name: code.entry(name) for name in program.names()}
        self.routines = routines_of(program)
        self.strand = Strand({}, self.entries["main"])
        # Each strand that waits, with the kept expression that it asks.
        self.around = []
        self.spoken = []
        # How many marks instructions have put on.
        self.marked = 0
        # What is told behind the last instruction: None as long as the run goes on.
        self.answer = None
        self.result = None
        # What things held ahead of the instructions, by the things; None if nobody wants to know it.
        self.noted = None

    def content(self):
        return (self.strand, tuple(self.around), self.answer, self.result)

    def become(self, content):
        self.strand, around, self.answer, self.result = content
        self.around = list(around)

    def note(self, thing):
        """Is told of each thing ahead of a change of what it holds."""
        if self.noted is not None and thing not in self.noted:
            self.noted[thing] = thing.content()

    def depth(self):
        """The number of calls and asks within one another."""
        return frames_from(self.strand.frame) + sum([frames_from(strand.frame) for strand, _ in self.around])

    def take(self, many):
        """Takes so many worths off the end of those held."""
        strand = self.strand
        first = len(strand.held_row) - many
        if first < 0:
            raise Wrong("code")
        worths = strand.held_row[first:]
        if any([isinstance(worth, Tally) for worth in worths]):
            raise Wrong("code")
        strand.held_row = strand.held_row[:first]
        return worths

    def put(self, item):
        strand = self.strand
        if len(strand.held_row) >= MOST_HELD:
            raise Wrong("code")
        strand.held_row = strand.held_row + (item,)

    def put_mark(self, mark):
        self.strand.put_mark(mark)
        self.marked += 1

    def put_look_mark(self):
        self.put_mark(("look", self.strand.look_now))

    def give(self, worth):
        """The run has this result."""
        self.result = worth
        self.answer = ("gave", words_of(worth))

    def end(self, answer):
        """The run is over, and nothing is left but what was said."""
        nothing = Strand({}, 0)
        nothing.frame = None
        self.strand = nothing
        self.around = []
        self.answer = answer

    def leave_kept(self):
        """Goes on with the strand that asked the kept expression which runs."""
        strand, kept = self.around.pop()
        kept.busy = False
        self.strand = strand

    def go_back(self):
        while True:
            if self.strand.marks_many > 0:
                if self._back_to(self.strand.take_mark()):
                    return
            elif len(self.around) > 0:
                # The kept expression failed, so the ask goes back as well.
                self.leave_kept()
            else:
                self.end(("failed",))
                return

    def _back_to(self, mark):
        """Does what a mark tells that was taken off; whether the run goes on there."""
        kind = mark[0]
        strand = self.strand
        if kind == "unlend":
            _, frame, name, had = mark
            self.note(frame)
            give_back(name, frame.given, had)
            return False
        if kind == "look":
            strand.look_now = mark[1]
            return False
        if kind == "retry":
            strand.stand_again(mark[1])
            return True
        found = next_of(mark[2])
        if found is None:
            return False
        worth, rest = found
        strand.put_mark(("more", mark[1], rest))
        strand.stand_again(mark[1])
        self.put(worth)
        return True
