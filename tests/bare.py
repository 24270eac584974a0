"""Open expressions told a second time, as plainly as can be, and drawn by chance.

It shares no code with the package.
"""

import random
import re

WORDS = ("mod nothing first no if most again to items every while do call back out fall keep ask anew scan move tab "
         "find reach many match here put take size at place say is isnt list").split()
WITHIN = {"none": (), "give": (), "each": (3,), "choice": (1, 2), "when": (2,), "last": (3,)}
SIZES = {"none": 1, "give": 2, "each": 4, "choice": 3, "when": 3, "last": 4}


def row(thing):
    return isinstance(thing, (list, tuple))


def name(thing):
    return isinstance(thing, str) and re.fullmatch("[a-z]{1,8}", thing) is not None and thing not in WORDS


def atom(thing):
    if isinstance(thing, str):
        return len(thing) <= 20 and all(sign in SIGNS for sign in thing)
    return isinstance(thing, int) and not isinstance(thing, bool)


SIGNS = "".join(chr(number) for number in range(32, 127) if number != 37)


def faults(thing, given=(), place=()):
    """The places of faults, in order, but for the bounds; those within what has a fault itself are left out."""
    def item(value, index):
        fits = row(value) and len(value) == 2 and isinstance(value[0], str)
        if fits and value[0] == "name":
            fits = any(isinstance(value[1], str) and value[1] == one for one in given)
        elif fits:
            fits = value[0] == "atom" and atom(value[1])
        if not fits:
            yield place + index
    if not row(thing) or not thing or not isinstance(thing[0], str) or SIZES.get(thing[0]) != len(thing):
        yield place
        return
    word = thing[0]
    if word == "give":
        if not row(thing[1]) or len(thing[1]) > 3:
            yield place + (1,)
            return
        for k, one in enumerate(thing[1]):
            yield from item(one, (1, k))
    if word == "each":
        if not name(thing[1]) or thing[1] in given:
            yield place + (1,)
            return
        if not name(thing[2]):
            yield place + (2,)
        yield from faults(thing[3], given + (thing[1],), place + (3,))
    if word == "choice":
        yield from faults(thing[1], given, place + (1,))
        yield from faults(thing[2], given, place + (2,))
    if word == "when":
        test = thing[1]
        if not row(test) or len(test) != 3 or test[0] not in ("alike", "unlike"):
            yield place + (1,)
        else:
            yield from item(test[1], (1, 1))
            yield from item(test[2], (1, 2))
        yield from faults(thing[2], given, place + (2,))
    if word == "last":
        if not name(thing[1]):
            yield place + (1,)
        yield from item(thing[2], (2,))
        yield from faults(thing[3], given, place + (3,))


def parts(thing, given=(), place=()):
    """(place, part, names around) for all parts."""
    yield place, thing, given
    within = given + (thing[1],) if thing[0] == "each" else given
    for k in WITHIN[thing[0]]:
        yield from parts(thing[k], within, place + (k,))


def fault(thing):
    for place in faults(thing):
        return place
    found = list(parts(thing))
    rows = {part[2] for _, part, _ in found if part[0] == "each"}
    lasting = {part[1] for _, part, _ in found if part[0] == "last"}
    deepest = max(len(place) for place, _, _ in found) + 1
    most = max(len(given) for _, _, given in found)
    return () if len(found) > 40 or deepest > 12 or most > 3 or len(rows) > 3 or len(lasting) > 3 else None


def at(thing, place):
    for index in place:
        thing = thing[index]
    return thing


def put(thing, place, part):
    if not place:
        return part
    return thing[:place[0]] + (put(thing[place[0]], place[1:], part),) + thing[place[0] + 1:]


def around(thing, place):
    return [given for where, _, given in parts(thing) if where == place][0]


def rows_of(thing):
    return sorted({part[2] for _, part, _ in parts(thing) if part[0] == "each"})


def atoms_in(thing):
    """The written atoms."""
    found = []
    for _, part, _ in parts(thing):
        shown = {"give": lambda: part[1], "when": lambda: part[1][1:], "last": lambda: part[2:3]}
        for word, one in shown.get(part[0], lambda: ())():
            if word == "atom" and one not in found:
                found.append(one)
    return found


def most(thing):
    return max(len(given) for _, _, given in parts(thing))


def lead(thing, rows, given=(), lasting=None):
    """The row of results; what lasts is put into the dict."""
    atoms = dict(given)

    def value(one):
        return one[1] if one[0] == "atom" else atoms[one[1]]
    word = thing[0]
    if word == "give":
        return [(tuple(value(one) for one in thing[1]), tuple(sorted(given)))]
    if word == "choice":
        return lead(thing[1], rows, given, lasting) + lead(thing[2], rows, given, lasting)
    if word == "when":
        alike = value(thing[1][1]) == value(thing[1][2])
        return lead(thing[2], rows, given, lasting) if alike == (thing[1][0] == "alike") else []
    if word == "last":
        if lasting is not None:
            lasting[thing[1]] = value(thing[2])
        return lead(thing[3], rows, given, lasting)
    if word == "each":
        return [result for one in rows[thing[2]]
                for result in lead(thing[3], rows, given + ((thing[1], one),), lasting)]
    return []


def bag(results):
    return sorted(results, key=repr)


RELATES = {
    "same": lambda a, b: a == b,
    "begins": lambda a, b: len(a) <= len(b) and all(one == two for one, two in zip(a, b)),
    "bag": lambda a, b: bag(a) == bag(b),
    "set": lambda a, b: all(one in b for one in a) and all(one in a for one in b),
    "within": lambda a, b: all(one in b for one in a),
}
HAS = {
    "empty": lambda a: a == [],
    "single": lambda a: len(a) < 2,
    "once": lambda a: all(a.count(one) == 1 for one in a),
}


def many(rows):
    """The number of different atoms in rows."""
    return len({one for atoms in rows.values() for one in atoms})


def environments(names, written, longest):
    """All environments with so many different atoms at most, up to an exchange of unwritten ones; the fewest first."""
    found = list(extended({}, list(names), list(written), longest))
    return sorted(found, key=many)


def extended(rows, names, written, longest):
    if not names:
        yield rows
        return
    used = {one for atoms in rows.values() for one in atoms}
    others = len([one for one in used if one not in written])
    for atoms in orders([], written, others, longest):
        if len(used | set(atoms)) <= longest:
            yield from extended({**rows, names[0]: atoms}, names[1:], written, longest)


def orders(atoms, written, others, longest):
    """All rows that begin with these atoms, where so many others are used already; new ones come by their numbers."""
    yield atoms
    if len(atoms) < longest:
        for one in written + [f"new {number}" for number in range(others + 1)]:
            if one not in atoms:
                more = others + (one == f"new {others}")
                yield from orders(atoms + [one], written, more, longest)


class Drawer:
    """Draws open expressions over these names, row names and atoms."""

    def __init__(self, seed, names="xyz", rows="rst", atoms=(), most_names=3, lasts=False):
        self.chance = random.Random(seed)
        self.names, self.rows, self.atoms, self.most_names, self.lasts = names, rows, atoms, most_names, lasts

    def item(self, given):
        """An item, or None if there is nothing to show."""
        if given and (not self.atoms or self.chance.random() < 0.75):
            return ("name", self.chance.choice(given))
        return ("atom", self.chance.choice(self.atoms)) if self.atoms else None

    def test(self, given):
        word, one, two = self.chance.choice(["alike", "unlike"]), self.item(given), self.item(given)
        return (word, one, two) if one else None

    def draw(self, depth, given=()):
        chance = self.chance
        luck = chance.random()
        if depth <= 1 or luck < 0.1:
            if chance.random() < 0.15:
                return ("none",)
            shown = [self.item(given) for _ in range(chance.randrange(3))]
            return ("give", tuple(one for one in shown if one))
        free = [one for one in self.names if one not in given]
        if luck < 0.45 and free and len(given) < self.most_names:
            x = chance.choice(free)
            return ("each", x, chance.choice(self.rows), self.draw(depth - 1, given + (x,)))
        if luck < 0.72:
            return ("choice", self.draw(depth - 1, given), self.draw(depth - 1, given))
        if self.lasts and luck < 0.85 and self.item(given):
            return ("last", chance.choice("uv"), self.item(given), self.draw(depth - 1, given))
        test = self.test(given)
        return ("when", test, self.draw(depth - 1, given)) if test else self.draw(depth - 1, given)

    def drawn(self, depth):
        """One that is within the bounds."""
        while True:
            found = self.draw(depth)
            if fault(found) is None:
                return found

    def near(self, thing):
        """Another one that is near: a part is exchanged, parted by a test, turned about, put behind nothing .."""
        chance = self.chance
        for _ in range(chance.randrange(1, 4)):
            place, part, given = chance.choice(list(parts(thing)))
            other = self.other_part(part, given)
            if other is not None and fault(put(thing, place, other)) is None:
                thing = put(thing, place, other)
        return thing

    def other_part(self, part, given):
        chance = self.chance
        luck = chance.randrange(9)
        test = self.test(given)
        if luck == 0:
            return self.draw(3, given)
        if luck in (1, 2) and test:
            opposite = ("unlike" if test[0] == "alike" else "alike",) + test[1:]
            return ("choice", ("when", test, part), ("when", opposite, part))
        if luck == 3 and part[0] == "choice":
            return ("choice", part[2], part[1])
        if luck == 4:
            return chance.choice([("choice", ("none",), part), ("choice", part, ("none",))])
        if part[0] == "each" and part[3][0] == "each" and luck in (5, 6):
            inner = part[3]
            if luck == 5:
                return inner[:3] + (part[:3] + inner[3:],)
            return ("each", part[1], inner[2], ("each", inner[1], part[2], inner[3]))
        if luck == 7 and part[0] == "each":
            return part[:2] + (chance.choice(self.rows), part[3])
        return part[2] if luck == 8 and part[0] == "when" else None
