"""How strict expressions are asked: part by part, and behind the last part the deed is done."""

from triedagain.askings import AGAIN, ASKED, GAVE, asking_of, asking_of_body, depth_of
from triedagain.deeds import check_ask, check_call, deed, moved, next_of, row_of_results, text_between
from triedagain.worths import Listing, give_back, words_of, worth_given, worth_of_name


def advance(turn, asker, asking, worth):
    """What happens to a strict expression in its turn."""
    if turn == ASKED:
        _ask_from(asker, asking, 0)
    elif turn == AGAIN:
        _again(asker, asking)
    elif turn == GAVE:
        _part_gave(asker, asking, worth)
    else:
        _part_failed(asker, asking)


def _ask_from(asker, asking, at):
    """Asks the part at this place, or does the deed if there is none."""
    if at < len(asking.parts):
        asker.ask_part(asking, at)
        return
    worths = [asking.worths[index] for index in range(len(asking.parts))]
    word = asking.word
    if word in DEEDS:
        action = DEEDS[word]
        action(asker, asking, worths)
    else:
        if word in ("op", "test"):
            word = asking.whole[1]
        _finish(asker, asking, deed(word, worths, asker.look_now))


def _finish(asker, asking, results):
    """Gives the one result of a deed, if there is one."""
    if len(results) > 0:
        asker.give(asking, results[0])
    else:
        _ask_last_again(asker, asking)


def _ask_last_again(asker, asking):
    """The deed has no more results."""
    if len(asking.parts) > 0:
        asker.ask_again(asking, len(asking.parts) - 1)
    else:
        asker.fail(asking)


def _again(asker, asking):
    word = asking.word
    if word == "lend":
        give_back(asking.whole[1], asking.given, asking.had)
    elif word in ("move", "tab"):
        asker.look_now = asking.noted_look
    if word == "call":
        asker.ask_again(asking, len(asking.parts))
    elif asking.row is not None:
        _tell_next(asker, asking)
    else:
        _ask_last_again(asker, asking)


def _part_gave(asker, asking, worth):
    if asking.at < len(asking.parts):
        asking.worths[asking.at] = worth
        _ask_from(asker, asking, asking.at + 1)
        return
    # It is the called body or the kept one that gave.
    if asking.word == "ask":
        _end_ask(asker, asking, asking.below[1])
    asker.give(asking, worth)


def _part_failed(asker, asking):
    if asking.at == len(asking.parts):
        if asking.word == "ask":
            _end_ask(asker, asking, None)
        _ask_last_again(asker, asking)
    elif asking.at > 0:
        asker.ask_again(asking, asking.at - 1)
    else:
        asker.fail(asking)


def _worth(asker, asking, worths):
    """The deed of nothing, number and text, which is the worth in them."""
    asker.give(asking, asking.whole[1] if len(asking.whole) > 1 else None)


def _name(asker, asking, worths):
    asker.give(asking, worth_of_name(asking.whole[1], asking.given, asker.routines))


def _list(asker, asking, worths):
    asker.give(asking, Listing(worths))


def _give(asker, asking, worths):
    asking.given[asking.whole[1]] = worths[0]
    asker.give(asking, worths[0])


def _lend(asker, asking, worths):
    asking.had = worth_given(asking.whole[1], asking.given)
    _give(asker, asking, worths)


def _say(asker, asking, worths):
    asker.spoken.append(words_of(worths[0]))
    asker.give(asking, worths[0])


def _move(asker, asking, worths):
    asking.noted_look = asker.look_now
    goals = moved(asking.word, worths[0], asker.look_now)
    if len(goals) == 0:
        _ask_last_again(asker, asking)
        return
    asker.look_now = (asking.noted_look[0], goals[0])
    asker.give(asking, text_between(asking.noted_look, goals[0]))


def _rows(asker, asking, worths):
    asking.row = row_of_results(asking.word, worths, asker.look_now)
    _tell_next(asker, asking)


def _tell_next(asker, asking):
    found = next_of(asking.row)
    if found is None:
        _ask_last_again(asker, asking)
    else:
        worth, asking.row = found
        asker.give(asking, worth)


def _call(asker, asking, worths):
    check_call(worths[0], len(worths) - 1, depth_of(asking))
    asker.ask_below(asking, len(worths), asking_of_body(worths[0], worths[1:]))


def _ask(asker, asking, worths):
    """Asks the kept one with its own look, while the look around it waits with the asking."""
    kept = worths[0]
    check_ask(kept, depth_of(asking))
    is_first = kept.state is None
    if is_first:
        kept.state = (asking_of(kept.source, dict(kept.given)), ("", 0))
    within, look = kept.state
    if within is None:
        _ask_last_again(asker, asking)
        return
    kept.busy = True
    asking.noted_look = asker.look_now
    asker.look_now = look
    if is_first:
        asker.ask_below(asking, 1, within)
    else:
        # Another ask may have asked it last.
        within.above = asking
        asking.below[1] = within
        asker.ask_again(asking, 1)


def _end_ask(asker, asking, within):
    """The kept one that was asked gave or failed; behind failing there is nothing within that is asked again."""
    kept = asking.worths[0]
    kept.busy = False
    kept.state = (within, asker.look_now)
    asker.look_now = asking.noted_look


DEEDS = {
    "nothing": _worth, "number": _worth, "text": _worth, "name": _name, "list": _list, "give": _give, "lend": _lend,
    "say": _say, "move": _move, "tab": _move, "to": _rows, "items": _rows, "find": _rows, "reach": _rows,
    "call": _call, "ask": _ask,
}
