"""The deeds: what is done with the worths of the parts.

A deed gives a tuple: its one result, or nothing. A row of more results is a tuple that never changes; next_of tells
the next result and the rest. A look is a tuple of a text and a place in it. What makes the run wrong raises Wrong.
"""

from triedagain.shapes import OP_WORDS, TEST_WORDS, is_integer
from triedagain.worths import MOST_ITEMS, Kept, Listing, Routine, Wrong

GREATEST_INTEGER = 1000000000
MOST_SIGNS = 60
MOST_CALLS = 12
# How many worths each deed takes; the row words are those of deeds with more results.
TAKEN = {
    "+": 2, "-": 2, "*": 2, "/": 2, "mod": 2, ".": 2,
    "<": 2, "<=": 2, "=": 2, "<>": 2, "is": 2, "isnt": 2,
    "put": 2, "take": 1, "size": 1, "at": 2, "place": 3, "say": 1,
    "here": 0, "move": 1, "tab": 1, "many": 1, "match": 1, "anew": 1,
}
ROW_TAKEN = {"to": 2, "items": 1, "find": 1, "reach": 1}


def require(is_right, reason="kind"):
    if not is_right:
        raise Wrong(reason)


def deed(word, worths, look):
    """Does the deed of this word, if it is none that changes the look or says something."""
    if word in OP_WORDS:
        return _operated(word, worths[0], worths[1])
    if word in TEST_WORDS:
        return (worths[1],) if _holds(word, worths[0], worths[1]) else ()
    if word in ON_LOOKS:
        action = ON_LOOKS[word]
        return action(worths, look[0], look[1])
    action = ON_WORTHS[word]
    return action(worths)


def _operated(word, left, right):
    if word == ".":
        require(isinstance(left, str) and isinstance(right, str))
        require(len(left) + len(right) <= MOST_SIGNS, "great")
        return (left + right,)
    require(is_integer(left) and is_integer(right))
    if word in ("/", "mod"):
        if right == 0:
            return ()
        result = left // right if word == "/" else left % right
    elif word == "*":
        result = left * right
    else:
        result = left + right if word == "+" else left - right
    require(-GREATEST_INTEGER <= result <= GREATEST_INTEGER, "great")
    return (result,)


def _holds(word, left, right):
    if word == "is":
        return left == right
    if word == "isnt":
        return left != right
    both_texts = isinstance(left, str) and isinstance(right, str)
    require(both_texts or is_integer(left) and is_integer(right))
    if word == "<":
        return left < right
    if word == "<=":
        return left <= right
    return left == right if word == "=" else left != right


def _put(worths):
    listing, worth = worths
    require(isinstance(listing, Listing))
    require(len(listing.worths) < MOST_ITEMS, "great")
    listing.worths.append(worth)
    return (listing,)


def _take(worths):
    listing = worths[0]
    require(isinstance(listing, Listing))
    if len(listing.worths) == 0:
        return ()
    return (listing.worths.pop(),)


def _size(worths):
    return (len(_row_within(worths[0])),)


def _at(worths):
    row = _row_within(worths[0])
    place = worths[1]
    require(is_integer(place))
    return (row[place],) if 0 <= place < len(row) else ()


def _row_within(worth):
    """The text, or the row of the items of a list."""
    if isinstance(worth, Listing):
        return worth.worths
    require(isinstance(worth, str))
    return worth


def _place(worths):
    listing, place, worth = worths
    require(isinstance(listing, Listing) and is_integer(place))
    if not 0 <= place < len(listing.worths):
        return ()
    listing.worths[place] = worth
    return (listing,)


def _anew(worths):
    kept = worths[0]
    require(isinstance(kept, Kept))
    return (kept.made_anew(),)


def _here(worths, text, place):
    return (place,)


def _many(worths, text, place):
    signs = worths[0]
    require(isinstance(signs, str))
    behind = place
    while behind < len(text) and text[behind] in signs:
        behind += 1
    return (behind,) if behind > place else ()


def _match(worths, text, place):
    sought = worths[0]
    require(isinstance(sought, str))
    return (place + len(sought),) if text.startswith(sought, place) else ()


ON_WORTHS = {"put": _put, "take": _take, "size": _size, "at": _at, "place": _place, "anew": _anew}
ON_LOOKS = {"here": _here, "many": _many, "match": _match}


def moved(word, worth, look):
    """The deed of move and tab: a tuple of the place to which the look goes, or an empty one."""
    text, place = look
    require(is_integer(worth))
    goal = place + worth if word == "move" else worth
    return (goal,) if 0 <= goal <= len(text) else ()


def text_between(look, goal):
    text, place = look
    return text[min(place, goal):max(place, goal)]


def row_of_results(word, worths, look):
    """The row of results of the deed of this word."""
    worth = worths[0]
    if word == "to":
        require(is_integer(worth) and is_integer(worths[1]))
        return ("to", worth, worths[1])
    if word == "items" and isinstance(worth, Listing):
        return ("items", worth, 0)
    require(isinstance(worth, str))
    if word == "items":
        return ("row", tuple(worth), 0)
    text, place = look
    if word == "find":
        return ("row", tuple([at for at in range(place, len(text) + 1) if text.startswith(worth, at)]), 0)
    return ("row", tuple([at for at in range(place, len(text)) if text[at] in worth]), 0)


def next_of(row):
    """The next result of a row and the rest of the row; None if there is no more."""
    kind, first, second = row
    if kind == "to":
        return (first, ("to", first + 1, second)) if first <= second else None
    results = first.worths if kind == "items" else first
    return (results[second], (kind, first, second + 1)) if second < len(results) else None


def check_call(worth, many, depth):
    """A call of a worth with so many others, within so many calls and asks."""
    require(isinstance(worth, Routine))
    require(len(worth.params) == many, "count")
    require(depth < MOST_CALLS, "deep")


def check_ask(worth, depth):
    """An ask of a worth, within so many calls and asks."""
    require(isinstance(worth, Kept))
    require(not worth.busy, "busy")
    require(depth < MOST_CALLS, "deep")
