"""What is being asked, and whose turn it is.

Nothing here calls itself: an asking that asks one of its parts waits above it until the part gives or fails. An
asking that is given up is just not asked any more.
"""

from triedagain.shapes import parts_of
from triedagain.worths import routines_of

# What may happen to an asking in its turn: it is asked, or asked again, or one of its parts gave or failed.
ASKED = "asked"
AGAIN = "again"
GAVE = "gave"
FAILED = "failed"
# The word of an asking of the body of a procedure, which no expression has.
BODY = "body"


class Asking:
    """An asking of an expression, or of the body of a procedure, and how far it is."""

    def __init__(self, word, expression, parts, given):
        self.word = word
        self.whole = expression
        self.parts = parts
        # The names of the frame, and the asking of the body that runs in it: a kept one's own frame has none.
        self.given = given
        self.body = None
        self.above = None
        # The part that was asked last, and the askings and the worths of the parts.
        self.at = 0
        self.below = {}
        self.worths = {}
        # What the different expressions remember for being asked again.
        self.many = 0
        self.row = None
        self.had = ()
        self.noted_look = None
        self.inner_look = None
        self.leaving = None


def asking_of(expression, given):
    return Asking(expression[0], expression, parts_of(expression), given)


def asking_of_body(routine, worths):
    """An asking of the body of a procedure that is called with these worths."""
    body = Asking(BODY, None, routine.body, dict(zip(routine.params, worths)))
    body.body = body
    return body


class Asker:
    """A run: what its askings share, and whose turn it is. It is nobody's turn when main gave or failed."""

    def __init__(self, program):
        self.routines = routines_of(program)
        self.look_now = ("", 0)
        self.spoken = []
        self.steps = 0
        self.turn = ASKED
        self.asking = asking_of_body(self.routines["main"], [])
        self.handed = None

    def let(self, turn, asking, worth=None):
        self.turn = turn
        self.asking = asking
        self.handed = worth
        if turn in (ASKED, AGAIN) and asking.word != BODY:
            self.steps += 1

    def ask_part(self, asking, at):
        """Asks a part for the first time, or anew."""
        below = asking_of(asking.parts[at], asking.given)
        below.body = asking.body
        self.ask_below(asking, at, below)

    def ask_below(self, asking, at, below):
        below.above = asking
        asking.at = at
        asking.below[at] = below
        self.let(ASKED, below)

    def ask_again(self, asking, at):
        """Asks what was asked as this part again."""
        asking.at = at
        self.let(AGAIN, asking.below[at])

    def give(self, asking, worth):
        self.let(GAVE, asking.above, worth)

    def fail(self, asking):
        self.let(FAILED, asking.above)


def depth_of(asking):
    """The number of calls and asks that are being asked around this asking, one within the other."""
    many = 0
    above = asking.above
    while above is not None:
        if above.word == BODY or above.word == "ask" and above.at == 1:
            many += 1
        above = above.above
    return many
