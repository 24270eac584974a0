"""The rules by which one part may stand in the place of another one, so that no row of results changes.

A rule is asked with the part, with what a step tells more, and with the Spot of the part. It tells the new part, or
None if it does not fit.
"""

from triedagain.openparts import BODIES, is_item, is_test, opposite
from triedagain.shapes import frozen, is_integer, is_row

NONE = ("none",)
# The words of the steps that tell more.
TELLING = ("split", "guard", "word")


def can_all_pass(tests):
    """Whether there are atoms for the names with which all tests pass; there is no end of atoms."""
    lots = {}
    for test in tests:
        for item in test[1:]:
            lots.setdefault(item, len(lots))
    for word, item, other in tests:
        if word == "alike":
            left, joined = lots[item], lots[other]
            lots = {each: left if lots[each] == joined else lots[each] for each in lots}
    if any([word == "unlike" and lots[item] == lots[other] for word, item, other in tests]):
        return False
    # Written atoms are unlike, so no two of them may have got into one lot.
    fixed = [lots[item] for item in lots if item[0] == "atom"]
    return len(set(fixed)) == len(fixed)


def follows_from(tests, test):
    return not can_all_pass(list(tests) + [opposite(test)])


def pinned(test, name):
    """The item to which the test pins the name; None if it does not."""
    word, item, other = test
    if word == "alike" and item != other:
        if item == ("name", name):
            return other
        if other == ("name", name):
            return item
    return None


def new_part(word, part, more, spot):
    """The part that a step of this word puts in the place of a part; None if there is no such step."""
    if not isinstance(word, str) or word not in RULES:
        return None
    if more is not None and word not in TELLING:
        return None
    action = RULES[word]
    return action(part, more, spot)


def _has(part, word, *within):
    """Whether a part has this word, and the parts in it have those words that are told."""
    if part[0] != word:
        return False
    bodies = [part[index] for index in BODIES[word]]
    return all([wanted is None or body[0] == wanted for body, wanted in zip(bodies, within)])


def _right(part, more, spot):
    if not _has(part, "choice", "choice"):
        return None
    _, first, third = part
    return ("choice", first[1], ("choice", first[2], third))


def _left(part, more, spot):
    if not _has(part, "choice", None, "choice"):
        return None
    _, first, second = part
    return ("choice", ("choice", first, second[1]), second[2])


def _drop(part, more, spot):
    if _has(part, "choice", "none"):
        return part[2]
    if _has(part, "choice", None, "none"):
        return part[1]
    return NONE if _has(part, "each", "none") or _has(part, "when", "none") else None


def _ahead(part, more, spot):
    return ("choice", NONE, part)


def _behind(part, more, spot):
    return ("choice", part, NONE)


def _spread(part, more, spot):
    if not _has(part, "when", "choice"):
        return None
    _, test, choice = part
    return ("choice", ("when", test, choice[1]), ("when", test, choice[2]))


def _gather(part, more, spot):
    if not _has(part, "choice", "when", "when") or part[1][1] != part[2][1]:
        return None
    _, first, second = part
    return ("when", first[1], ("choice", first[2], second[2]))


def _swap(part, more, spot):
    if not _has(part, "when", "when"):
        return None
    _, test, inner = part
    return ("when", inner[1], ("when", test, inner[2]))


def _out(part, more, spot):
    if not _has(part, "each", "when"):
        return None
    _, name, row, inner = part
    if ("name", name) in inner[1][1:]:
        return None
    return ("when", inner[1], ("each", name, row, inner[2]))


def _in(part, more, spot):
    if not _has(part, "when", "each"):
        return None
    _, test, inner = part
    return ("each", inner[1], inner[2], ("when", test, inner[3]))


def _split(part, more, spot):
    if not is_test(more, spot.names_around()):
        return None
    test = frozen(more)
    return ("choice", ("when", test, part), ("when", opposite(test), part))


def _join(part, more, spot):
    if not _has(part, "choice", "when", "when"):
        return None
    _, first, second = part
    if second[1] != opposite(first[1]) or first[2] != second[2]:
        return None
    return first[2]


def _settle(part, more, spot):
    if not _has(part, "when") or not follows_from(spot.tests, part[1]):
        return None
    return part[2]


def _shut(part, more, spot):
    if not _has(part, "when") or not follows_from(spot.tests, opposite(part[1])):
        return None
    return NONE


def _guard(part, more, spot):
    if not is_test(more, spot.names_around()) or not follows_from(spot.tests, frozen(more)):
        return None
    return ("when", frozen(more), part)


def _exchange(part, more, spot):
    if not _has(part, "choice", "when", "when"):
        return None
    _, first, second = part
    if not follows_from(spot.tests + (first[1],), opposite(second[1])):
        return None
    return ("choice", second, first)


def _word(part, more, spot):
    if part[0] != "give" or not is_row(more) or len(more) != 2:
        return None
    index, item = more
    shown = part[1]
    if not is_integer(index) or not 0 <= index < len(shown) or not is_item(item, spot.names_around()):
        return None
    item = frozen(item)
    if not follows_from(spot.tests, ("alike", shown[index], item)):
        return None
    return ("give", shown[:index] + (item,) + shown[index + 1:])


def _pass(part, more, spot):
    if not _has(part, "each", "each") or not _has(part[3], "each", "when"):
        return None
    _, name, row, inner = part
    _, other, other_row, body = inner
    goal, other_goal = pinned(body[1], name), pinned(body[1], other)
    is_free = goal is not None and goal != ("name", other) or other_goal is not None and other_goal != ("name", name)
    if not is_free and (row != other_row or goal != ("name", other)):
        return None
    return ("each", other, other_row, ("each", name, row, body))


def _part(part, more, spot):
    if not _has(part, "each", "when") or not _has(part[3], "when", "choice"):
        return None
    _, name, row, (_, test, choice) = part
    if pinned(test, name) is None:
        return None
    return ("choice", ("each", name, row, ("when", test, choice[1])), ("each", name, row, ("when", test, choice[2])))


def _meet(part, more, spot):
    if not _has(part, "choice", "each", "each"):
        return None
    _, first, second = part
    if first[1:3] != second[1:3] or not _has(first, "each", "when") or not _has(second, "each", "when"):
        return None
    _, name, row, (_, test, body) = first
    if second[3][1] != test or pinned(test, name) is None:
        return None
    return ("each", name, row, ("when", test, ("choice", body, second[3][2])))


RULES = {
    "right": _right, "left": _left, "drop": _drop, "ahead": _ahead, "behind": _behind, "spread": _spread,
    "gather": _gather, "swap": _swap, "out": _out, "in": _in, "split": _split, "join": _join, "settle": _settle,
    "shut": _shut, "guard": _guard, "exchange": _exchange, "word": _word, "pass": _pass, "part": _part, "meet": _meet,
}
