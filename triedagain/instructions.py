"""What each instruction does. The place has gone on by one ahead of it."""

from triedagain.deeds import ROW_TAKEN, TAKEN, check_ask, check_call, deed, moved, require, row_of_results
from triedagain.deeds import text_between
from triedagain.engine import MOST_HELD, Frame, Strand, Tally
from triedagain.worths import Kept, Listing, Wrong, words_of, worth_given, worth_of_name

# The deeds that change the list which is their first worth.
CHANGING = ("put", "take", "place")


def at_end(engine):
    """Whether there is no instruction where the run stands."""
    return engine.strand.next_place == len(engine.instructions)


def do_next(engine):
    """Does the next instruction, with the going back that it brings."""
    strand = engine.strand
    row = engine.instructions[strand.next_place]
    strand.next_place += 1
    action = ACTIONS[row[0]]
    try:
        action(engine, row)
    except Wrong as wrong:
        engine.end(("wrong", wrong.reason))


def _require_code(is_right):
    require(is_right, "code")


def _worth(engine, row):
    engine.put(row[1])


def _name(engine, row):
    engine.put(worth_of_name(row[1], engine.strand.frame.given, engine.routines))


def _give(engine, row):
    worth = engine.take(1)[0]
    engine.note(engine.strand.frame)
    given = engine.strand.frame.given
    given[row[1]] = worth
    engine.put(worth)


def _lend(engine, row):
    worth = engine.take(1)[0]
    engine.note(engine.strand.frame)
    given = engine.strand.frame.given
    engine.put_mark(("unlend", engine.strand.frame, row[1], worth_given(row[1], given)))
    given[row[1]] = worth
    engine.put(worth)


def _drop(engine, row):
    strand = engine.strand
    _require_code(len(strand.held_row) > 0)
    strand.held_row = strand.held_row[:-1]


def _deed(engine, row):
    word = row[1]
    strand = engine.strand
    worths = engine.take(TAKEN[word])
    if word in ("move", "tab"):
        results = _moved(engine, word, worths[0])
    elif word == "say":
        engine.spoken.append(words_of(worths[0]))
        results = worths
    else:
        if word in CHANGING and isinstance(worths[0], Listing):
            engine.note(worths[0])
        results = deed(word, worths, strand.look_now)
    if len(results) > 0:
        engine.put(results[0])
    else:
        engine.go_back()


def _moved(engine, word, worth):
    """The result of moving the look."""
    strand = engine.strand
    look = strand.look_now
    goals = moved(word, worth, look)
    if len(goals) == 0:
        return ()
    engine.put_look_mark()
    strand.look_now = (look[0], goals[0])
    return (text_between(look, goals[0]),)


def _list(engine, row):
    worths = engine.take(row[1])
    engine.put(Listing(worths))


def _rows(engine, row):
    word = row[1]
    worths = engine.take(ROW_TAKEN[word])
    results = row_of_results(word, worths, engine.strand.look_now)
    engine.put_mark(("more", engine.strand.standing(), results))
    engine.go_back()


def _jump(engine, row):
    strand = engine.strand
    strand.next_place = row[1]


def _retry(engine, row):
    frame, _, stand = engine.strand.standing()
    engine.put_mark(("retry", (frame, row[1], stand)))


def _fail(engine, row):
    engine.go_back()


def _fence(engine, row):
    strand = engine.strand
    _require_code(len(strand.fence_row) < MOST_HELD)
    strand.fence_row = strand.fence_row + (strand.marks_many,)


def _take_fence(strand):
    _require_code(len(strand.fence_row) > 0)
    fence = strand.fence_row[-1]
    strand.fence_row = strand.fence_row[:-1]
    return fence


def _shut(engine, row):
    engine.strand.cut(_take_fence(engine.strand))


def _counter(engine, row):
    engine.put(Tally())


def _take_counter(strand, at):
    """Takes the counter that stands at this place from the end of HELD."""
    held = strand.held_row
    _require_code(len(held) >= at and isinstance(held[len(held) - at], Tally))
    strand.held_row = held[:len(held) - at] + held[len(held) - at + 1:]
    return held[len(held) - at]


def _tick(engine, row):
    fence = _take_fence(engine.strand)
    counter = _take_counter(engine.strand, 2)
    engine.note(counter)
    counter.count += 1
    if counter.count == row[1]:
        engine.strand.cut(fence)


def _mark(engine, row):
    counter = _take_counter(engine.strand, 2)
    engine.note(counter)
    counter.count = 1


def _any(engine, row):
    strand = engine.strand
    counter = _take_counter(strand, 1)
    if counter.count == 1:
        strand.next_place = row[1]
    else:
        engine.go_back()


def _call(engine, row):
    strand = engine.strand
    worths = engine.take(row[1] + 1)
    routine = worths[0]
    check_call(routine, row[1], engine.depth())
    frame = Frame(dict(zip(routine.params, worths[1:])), strand.standing(), strand.marks_many)
    strand.stand_again((frame, engine.entries[routine.name], ((), (), ())))


def _require_procedure(engine):
    """A kept one's own frame cannot be left but by yield."""
    _require_code(len(engine.around) == 0 or engine.strand.frame.way is not None)


def _leave_scans(strand):
    if len(strand.scans) > 0:
        strand.look_now = strand.scans[0]


def _return(engine, worth):
    way = engine.strand.frame.way
    if way is None:
        engine.give(worth)
    else:
        engine.strand.stand_again(way)
        engine.put(worth)


def _back(engine, row):
    strand = engine.strand
    worth = engine.take(1)[0]
    _require_procedure(engine)
    strand.cut(strand.frame.floor)
    _leave_scans(strand)
    _return(engine, worth)


def _out(engine, row):
    worth = engine.take(1)[0]
    _require_procedure(engine)
    engine.put_mark(("retry", engine.strand.standing()))
    engine.put_look_mark()
    _leave_scans(engine.strand)
    _return(engine, worth)


def _fall(engine, row):
    strand = engine.strand
    _require_procedure(engine)
    strand.cut(strand.frame.floor)
    _leave_scans(strand)
    engine.go_back()


def _keep(engine, row):
    strand = engine.strand
    engine.put(Kept(strand.next_place, strand.frame.given))
    strand.next_place = row[1]


def _yield(engine, row):
    worth = engine.take(1)[0]
    _require_code(len(engine.around) > 0)
    engine.leave_kept()
    engine.put(worth)


def _ask(engine, row):
    kept = engine.take(1)[0]
    check_ask(kept, engine.depth())
    engine.note(kept)
    kept.busy = True
    engine.around.append((engine.strand, kept))
    if kept.state is None:
        kept.state = Strand(dict(kept.given), kept.source)
        engine.strand = kept.state
    else:
        engine.note(kept.state)
        engine.strand = kept.state
        engine.go_back()


def _scan(engine, row):
    strand = engine.strand
    worth = engine.take(1)[0]
    _require_code(len(strand.scans) < MOST_HELD)
    require(isinstance(worth, str))
    engine.put_look_mark()
    strand.scans = strand.scans + (strand.look_now,)
    strand.look_now = (worth, 0)


def _leave(engine, row):
    strand = engine.strand
    _require_code(len(strand.scans) > 0)
    engine.put_look_mark()
    strand.look_now = strand.scans[-1]
    strand.scans = strand.scans[:-1]


ACTIONS = {
    "worth": _worth, "name": _name, "give": _give, "lend": _lend, "drop": _drop, "deed": _deed, "list": _list,
    "rows": _rows, "jump": _jump, "retry": _retry, "fail": _fail, "open": _fence, "shut": _shut,
    "counter": _counter, "tick": _tick, "mark": _mark, "any": _any, "call": _call, "back": _back, "out": _out,
    "fall": _fall, "keep": _keep, "yield": _yield, "ask": _ask, "scan": _scan, "leave": _leave,
}
