"""The table of steps told a second time: by templates in which small letters stand for parts, tests, names and rows."""

import itertools

from tests import bare

NONE = ("none",)
# Word, old part, new part, as in the table; "u" and what is asked of tests are told by CONDITIONS.
TABLE = [
    ("right", "choice(choice(a,b),c)", "choice(a,choice(b,c))"),
    ("left", "choice(a,choice(b,c))", "choice(choice(a,b),c)"),
    ("drop", "choice(none,a)", "a"), ("drop", "choice(a,none)", "a"),
    ("drop", "each(x,r,none)", "none"), ("drop", "when(t,none)", "none"),
    ("ahead", "a", "choice(none,a)"), ("behind", "a", "choice(a,none)"),
    ("spread", "when(t,choice(a,b))", "choice(when(t,a),when(t,b))"),
    ("gather", "choice(when(t,a),when(t,b))", "when(t,choice(a,b))"),
    ("swap", "when(t,when(u,a))", "when(u,when(t,a))"),
    ("out", "each(x,r,when(t,a))", "when(t,each(x,r,a))"),
    ("in", "when(t,each(x,r,a))", "each(x,r,when(t,a))"),
    ("split", "a", "choice(when(t,a),when(u,a))"),
    ("join", "choice(when(t,a),when(u,a))", "a"),
    ("settle", "when(t,a)", "a"), ("shut", "when(t,a)", "none"), ("guard", "a", "when(t,a)"),
    ("exchange", "choice(when(t,a),when(u,b))", "choice(when(u,b),when(t,a))"),
    ("pass", "each(x,r,each(y,s,when(t,a)))", "each(y,s,each(x,r,when(t,a)))"),
    ("part", "each(x,r,when(t,choice(a,b)))", "choice(each(x,r,when(t,a)),each(x,r,when(t,b)))"),
    ("meet", "choice(each(x,r,when(t,a)),each(x,r,when(t,b)))", "each(x,r,when(t,choice(a,b)))"),
]
WORDS = list(dict.fromkeys(word for word, _, _ in TABLE)) + ["word"]


def template(text):
    """A nested tuple of words, with a letter for each thing that it leaves open."""
    row, texts = [], []
    for sign in text + ",":
        if sign in ",()":
            if texts:
                row.append("".join(texts))
            texts = []
            if sign in "()":
                row.append(sign)
        else:
            texts.append(sign)
    return nested(row)[0]


def nested(row):
    word, rest = row[0], row[1:]
    if not rest or rest[0] != "(":
        return ((word,) if word == "none" else word), rest
    rest, inner = rest[1:], [word]
    while rest[0] != ")":
        part, rest = nested(rest)
        inner.append(part)
    return tuple(inner), rest[1:]


TEMPLATES = [(word, template(old), template(new)) for word, old, new in TABLE]


def match(pattern, thing, found):
    """Whether a thing has this shape; what the letters stand for is put into the dict."""
    if isinstance(pattern, str) and len(pattern) == 1:
        return found.setdefault(pattern, thing) == thing
    if isinstance(pattern, str):
        return pattern == thing
    return isinstance(thing, tuple) and len(pattern) == len(thing) and all(
        match(one, two, found) for one, two in zip(pattern, thing))


def filled(pattern, found):
    if isinstance(pattern, str):
        return found.get(pattern, pattern)
    return tuple(filled(one, found) for one in pattern)


def opposite(test):
    return ({"alike": "unlike", "unlike": "alike"}[test[0]],) + test[1:]


def tests_around(thing, place):
    tests = []
    for index in place:
        if thing[0] == "when":
            tests.append(thing[1])
        thing = thing[index]
    return tests


def follows(tests, names, test):
    """Tries all atoms that are written in the tests, and others."""
    written = [item[1] for one in tests + [test] for item in one[1:] if item[0] == "atom"]
    choices = written + [f"new {number}" for number in range(len(names) + 1)]
    for chosen in itertools.product(choices, repeat=len(names)):
        way = dict(zip(names, chosen))

        def passes(one):
            left, right = [item[1] if item[0] == "atom" else way[item[1]] for item in one[1:]]
            return (left == right) == (one[0] == "alike")
        if all(passes(one) for one in tests) and not passes(test):
            return False
    return True


def pinned_to(test, name):
    """The items to which a test pins a name."""
    own = ("name", name)
    return [two for one, two in (test[1:], test[:0:-1]) if test[0] == "alike" and one == own and two != own]


def fits(word, found, tests, names):
    """What stands in the last column of the table."""
    t, x, y = found.get("t"), found.get("x"), found.get("y")
    if word in ("join", "split"):
        return found["u"] == opposite(t)
    if word == "out":
        return ("name", x) not in t
    if word in ("settle", "guard"):
        return follows(tests, names, t)
    if word == "shut":
        return follows(tests, names, opposite(t))
    if word == "exchange":
        return follows(tests + [t], names, opposite(found["u"]))
    if word in ("part", "meet"):
        return bool(pinned_to(t, x))
    if word == "pass":
        free = [one for one in pinned_to(t, y) if one != ("name", x)] + [one for one in pinned_to(t,
                                                                                                  x) if one != ("name",
                                                                                                                y)]
        return bool(free) or found["r"] == found["s"] and ("name", y) in pinned_to(t, x)
    return True


def is_item(thing, names):
    return isinstance(thing, tuple) and len(thing) == 2 and (
        thing[0] == "name" and thing[1] in names or thing[0] == "atom" and bare.atom(thing[1]))


def is_test(thing, names):
    return isinstance(thing, tuple) and len(thing) == 3 and thing[0] in ("alike", "unlike") and all(
        is_item(one, names) for one in thing[1:])


def moved(thing, step):
    """The expression behind a step with tuples in it; None if there is none."""
    place, word, more = step
    spots = {where: (part, given) for where, part, given in bare.parts(thing)}
    if place not in spots or any(part[0] == "last" for part, _ in spots.values()):
        return None
    part, names = spots[place]
    tests = tests_around(thing, place)
    if word == "word":
        return within(thing, place, shown(part, more, tests, names))
    if (more is not None) != (word in ("split", "guard")) or more is not None and not is_test(more, names):
        return None
    for name, old, new in TEMPLATES:
        found = {} if more is None else {"t": more, "u": opposite(more)}
        if name == word and match(old, part, found) and fits(word, found, tests, names):
            return within(thing, place, filled(new, found))
    return None


def shown(part, more, tests, names):
    if part[0] != "give" or not isinstance(more, tuple) or len(more) != 2:
        return None
    k, item = more
    if isinstance(k, bool) or k not in range(len(part[1])) or not is_item(item, names):
        return None
    if not follows(tests, names, ("alike", part[1][k], item)):
        return None
    return ("give", part[1][:k] + (item,) + part[1][k + 1:])


def within(thing, place, part):
    whole = None if part is None else bare.put(thing, place, part)
    return whole if whole is not None and bare.fault(whole) is None else None
