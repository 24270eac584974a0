"""Steps from an open expression to another one that is always the same, and chains of them."""

from triedagain.errors import NoChain, NoPlace, NoStep, NoTest
from triedagain.openparts import is_test, spot_at, spots_with
from triedagain.opens import is_open, opened
from triedagain.shapes import frozen, is_row
from triedagain.stepping import follows_from, new_part

# The word of the step that leads back; drop leads back by ahead or behind, if it does.
BACK = {
    "right": "left", "left": "right", "ahead": "drop", "behind": "drop", "spread": "gather", "gather": "spread",
    "swap": "swap", "out": "in", "in": "out", "split": "join", "join": "split", "settle": "guard", "guard": "settle",
    "exchange": "exchange", "word": "word", "pass": "pass", "part": "meet", "meet": "part",
}


def follows(expression, place, test):
    spot = spot_at(opened(expression), place)
    if spot is None:
        raise NoPlace(place)
    if not is_test(test, spot.names_around()):
        raise NoTest(test)
    return follows_from(spot.tests, frozen(test))


def stepped(expression, step):
    whole = _behind_step(opened(expression), step)
    if whole is None:
        raise NoStep(step)
    return whole


def _behind_step(expression, step):
    """The expression behind any value as a step; None if this is no such step."""
    if not is_row(step) or len(step) != 3 or len(spots_with("last", expression)) > 0:
        return None
    place, word, more = step
    spot = spot_at(expression, place)
    if spot is None:
        return None
    part = new_part(word, spot.part, more, spot)
    if part is None:
        return None
    whole = _replaced(expression, spot.path, part)
    # It may pass a bound.
    return whole if is_open(whole) else None


def _replaced(expression, place, part):
    if len(place) == 0:
        return part
    index = place[0]
    return expression[:index] + (_replaced(expression[index], place[1:], part),) + expression[index + 1:]


def chained(expression, chain):
    whole = opened(expression)
    if not is_row(chain):
        raise NoChain(-1)
    for index, step in enumerate(chain):
        whole = _behind_step(whole, step)
        if whole is None:
            raise NoChain(index)
    return whole


def is_chain(first, second, thing):
    first, second = opened(first), opened(second)
    try:
        return chained(first, thing) == second
    except NoChain:
        return False


def back_step(expression, step):
    stepped(expression, step)
    place, word, more = step
    spot = spot_at(opened(expression), place)
    part = spot.part
    if word == "drop" and part[0] == "choice":
        return (spot.path, "ahead" if part[1] == ("none",) else "behind", None)
    if word not in BACK:
        raise NoStep(step)
    told = None
    if word == "join":
        told = part[1][1]
    elif word == "settle":
        told = part[1]
    elif word == "word":
        told = (more[0], part[1][more[0]])
    return (spot.path, BACK[word], told)
