"""Worths: None for nothing, integers, strings for texts, and objects of the classes here.

None of these classes has an equality of its own, so that two worths are the same exactly if they are equal.
"""

from triedagain.errors import TriedError
from triedagain.pasts import held_behind

MOST_ITEMS = 20


class Wrong(TriedError):
    """What is done makes the run wrong, for this reason; no caller of the package sees this error."""

    def __init__(self, reason):
        self.reason = reason


class Routine:
    """A procedure of a program."""

    def __init__(self, name, params, body):
        self.name = name
        self.params = params
        self.body = body


class Listing:
    """A list."""

    def __init__(self, worths):
        self.worths = list(worths)

    def content(self):
        return tuple(self.worths)

    def become(self, content):
        self.worths = list(content)


class Kept:
    """A kept expression.

    The source tells where it is written, and the state how it stands: both mean what those want who ask it.
    """

    def __init__(self, source, given):
        self.source = source
        # The names as they were when it was made, which no asking changes: so it can be made anew.
        self.given = dict(given)
        self.state = None
        self.busy = False

    def content(self):
        return (self.state, self.busy)

    def become(self, content):
        self.state, self.busy = content

    def made_anew(self):
        return Kept(self.source, self.given)


def routines_of(program):
    """A dict of the procedures of a program by their names."""
    found = {}
    for name in program.names():
        _, params, body = program.procedure(name)
        found[name] = Routine(name, params, body)
    return found


def worth_of_name(name, given, routines):
    """The worth of a name in a frame with these names given."""
    if name in given:
        return given[name]
    return routines.get(name)


def worth_given(name, given):
    """The worth that a name has, in a tuple of its own; an empty one if the name has not been given."""
    if name in given:
        return (given[name],)
    return ()


def give_back(name, given, had):
    """Gives a name the worth that it had, as worth_given told it."""
    if len(had) > 0:
        given[name] = had[0]
    else:
        del given[name]


def words_of(worth):
    if worth is None:
        return "nothing"
    if isinstance(worth, Routine):
        return f"to {worth.name}"
    if isinstance(worth, Listing):
        row = ", ".join([_words_within(item) for item in worth.worths])
        return f"[{row}]"
    if isinstance(worth, Kept):
        return "kept"
    return str(worth)


def _words_within(item):
    """The words of an item of a list."""
    if isinstance(item, str):
        return f"'{item}'"
    if isinstance(item, Listing):
        return "[..]" if len(item.worths) > 0 else "[]"
    return words_of(item)


def told(worth, past, many):
    """What a worth is told as outside of a run, where nobody can change what the run holds.

    It is told as behind so many steps; with an empty past as it is now.
    """
    if isinstance(worth, Listing):
        return ("list", [_told_within(item, past, many) for item in held_behind(past, many, worth, worth.worths)])
    return _told_within(worth, past, many)


def _told_within(item, past, many):
    """What an item of a list is told as."""
    if isinstance(item, Routine):
        return ("to", item.name)
    if isinstance(item, Listing):
        return ("list", len(held_behind(past, many, item, item.worths)))
    if isinstance(item, Kept):
        return ("kept",)
    return item
