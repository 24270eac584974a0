"""What sessions tell: what a run told and held behind so many of the steps of its tape.

Nothing here changes anything, so that the equality of sessions may call it.
"""

from triedagain.engine import Tally, frames_from
from triedagain.pasts import held_behind
from triedagain.worths import told

WENT = ("went",)
# Frame, place and stand where there is no frame.
NOT_STANDING = (None, None, ((), (), ()))


def all_told(tape, many):
    """All by which sessions are compared."""
    return (told_place(tape, many), told_held(tape, many), told_fences(tape, many), told_marks(tape, many),
            told_names(tape, many), told_look(tape, many), told_said(tape, many), told_depth(tape, many),
            is_over(tape, many))


def is_over(tape, many):
    return many > 0 and tape.answers[many - 1][0] in ("failed", "wrong")


def _standing(tape, many):
    """Frame, place and stand: there is no frame while a result is out, and when the run is over."""
    if many > 0 and tape.answers[many - 1] != WENT:
        return NOT_STANDING
    return tape.contents[many][0]


def told_place(tape, many):
    return _standing(tape, many)[1]


def told_held(tape, many):
    held, _, _ = _standing(tape, many)[2]
    return [_told_item(item, tape.past, many) for item in held]


def _told_item(item, past, many):
    if isinstance(item, Tally):
        return ("counter", held_behind(past, many, item, item.count))
    return told(item, past, many)


def told_fences(tape, many):
    _, fences, _ = _standing(tape, many)[2]
    return list(fences)


def told_marks(tape, many):
    found = []
    left = tape.contents[many][1]
    while left is not None:
        mark, left = left
        found.append(_told_mark(mark))
    return found[::-1]


def _told_mark(mark):
    """What a mark of the engine is told as."""
    if mark[0] in ("retry", "more"):
        return (mark[0], mark[1][1])
    if mark[0] == "unlend":
        return ("unlend", mark[2])
    return ("look", mark[1][1])


def told_names(tape, many):
    frame = _standing(tape, many)[0]
    if frame is None:
        return {}
    given = held_behind(tape.past, many, frame, frame.given)
    return {name: told(given[name], tape.past, many) for name in given}


def told_look(tape, many):
    return tape.contents[many][3]


def told_said(tape, many):
    return tape.spoken[:tape.words_many[many]]


def told_depth(tape, many):
    return frames_from(_standing(tape, many)[0])
