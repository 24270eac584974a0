"""How the expressions that are not strict are asked, and the bodies of procedures."""

from triedagain.askings import AGAIN, ASKED, GAVE
from triedagain.deeds import require
from triedagain.worths import Kept


def _ask_first(asker, asking, worth):
    asker.ask_part(asking, 0)


def _ask_again(asker, asking, worth):
    asker.ask_again(asking, asking.at)


def _give(asker, asking, worth):
    asker.give(asking, worth)


def _fail(asker, asking, worth):
    asker.fail(asking)


def _second_or_give(asker, asking, worth):
    if asking.at == 0:
        asker.ask_part(asking, 1)
    else:
        asker.give(asking, worth)


def _first_or_fail(asker, asking, worth):
    """The second part failed, so the first one is asked again; or the first part did."""
    if asking.at == 1:
        asker.ask_again(asking, 0)
    else:
        asker.fail(asking)


def _if_failed(asker, asking, worth):
    if asking.at == 0:
        asker.ask_part(asking, 2)
    else:
        asker.fail(asking)


def _most_asked(asker, asking, worth):
    if asking.many < asking.whole[1]:
        asker.ask_part(asking, 0)
    else:
        asker.fail(asking)


def _most_again(asker, asking, worth):
    if asking.many < asking.whole[1]:
        asker.ask_again(asking, 0)
    else:
        asker.fail(asking)


def _counted(asker, asking, worth):
    asking.many += 1
    asker.give(asking, worth)


def _no_failed(asker, asking, worth):
    asker.give(asking, None)


def _while_gave(asker, asking, worth):
    asker.ask_part(asking, 1 - asking.at)


def _while_failed(asker, asking, worth):
    if asking.at == 1:
        asker.ask_part(asking, 0)
    else:
        asker.fail(asking)


def _every_gave(asker, asking, worth):
    if asking.at == 0:
        asker.ask_part(asking, 1)
    else:
        asker.ask_again(asking, 0)


def _again_failed(asker, asking, worth):
    if asking.many > 0:
        asking.many = 0
        asker.ask_part(asking, 0)
    else:
        asker.fail(asking)


def _next_or_give(asker, asking, worth):
    if asking.at + 1 < len(asking.parts):
        asker.ask_part(asking, asking.at + 1)
    else:
        asker.give(asking, worth)


def _next_or_fail(asker, asking, worth):
    if asking.at + 1 < len(asking.parts):
        asker.ask_part(asking, asking.at + 1)
    else:
        asker.fail(asking)


def _keep_asked(asker, asking, worth):
    asker.give(asking, Kept(asking.parts[0], asking.given))


def _scan_gave(asker, asking, worth):
    if asking.at == 0:
        require(isinstance(worth, str))
        asking.noted_look = asker.look_now
        asker.look_now = (worth, 0)
        asker.ask_part(asking, 1)
    else:
        asking.inner_look = asker.look_now
        asker.look_now = asking.noted_look
        asker.give(asking, worth)


def _scan_again(asker, asking, worth):
    asker.look_now = asking.inner_look
    asker.ask_again(asking, 1)


def _scan_failed(asker, asking, worth):
    if asking.at == 1:
        asker.look_now = asking.noted_look
        asker.ask_again(asking, 0)
    else:
        asker.fail(asking)


def _leave_scans(asker, asking):
    """The look becomes what it was ahead of the outermost scan of this call whose second part is being asked."""
    above = asking.above
    while above != asking.body:
        if above.word == "scan" and above.at == 1:
            asker.look_now = above.noted_look
        above = above.above


def _back_gave(asker, asking, worth):
    _leave_scans(asker, asking)
    asker.give(asking.body, worth)


def _fall(asker, asking, worth):
    _leave_scans(asker, asking)
    asker.fail(asking.body)


def _out_gave(asker, asking, worth):
    asking.noted_look = asker.look_now
    _leave_scans(asker, asking)
    body = asking.body
    body.leaving = asking
    asker.give(body, worth)


def _body_asked(asker, asking, worth):
    if len(asking.parts) > 0:
        asker.ask_part(asking, 0)
    else:
        asker.fail(asking)


def _body_again(asker, asking, worth):
    """A call goes on behind the out by which it gave its last result; behind a back it has ended."""
    leaving = asking.leaving
    if leaving is None:
        asker.fail(asking)
    else:
        asking.leaving = None
        asker.look_now = leaving.noted_look
        asker.ask_again(leaving, 0)


ON_ASKED = {
    "most": _most_asked, "keep": _keep_asked, "fall": _fall, "body": _body_asked,
    "or": _ask_first, "and": _ask_first, "first": _ask_first, "no": _ask_first, "if": _ask_first,
    "again": _ask_first, "every": _ask_first, "while": _ask_first, "do": _ask_first, "scan": _ask_first,
    "back": _ask_first, "out": _ask_first,
}
# While, every, back, out and fall never give a result, so they are never asked again.
ON_AGAIN = {
    "or": _ask_again, "and": _ask_again, "first": _fail, "no": _fail, "if": _ask_again, "most": _most_again,
    "again": _ask_again, "do": _ask_again, "keep": _fail, "scan": _scan_again, "body": _body_again,
}
ON_GAVE = {
    "or": _give, "and": _second_or_give, "first": _give, "no": _fail, "if": _second_or_give, "most": _counted,
    "again": _counted, "every": _every_gave, "while": _while_gave, "do": _next_or_give, "scan": _scan_gave,
    "back": _back_gave, "out": _out_gave, "body": _next_or_fail,
}
ON_FAILED = {
    "or": _next_or_fail, "and": _first_or_fail, "first": _fail, "no": _no_failed, "if": _if_failed, "most": _fail,
    "again": _again_failed, "every": _first_or_fail, "while": _while_failed, "do": _next_or_fail,
    "scan": _scan_failed, "back": _fall, "out": _fail, "body": _next_or_fail,
}


def choose(turn, asker, asking, worth):
    """What happens to an asking that is not strict in its turn."""
    if turn == ASKED:
        action = ON_ASKED[asking.word]
    elif turn == AGAIN:
        action = ON_AGAIN[asking.word]
    elif turn == GAVE:
        action = ON_GAVE[asking.word]
    else:
        action = ON_FAILED[asking.word]
    action(asker, asking, worth)
