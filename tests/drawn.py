"""Programs and codes drawn by chance with a seed, so that the same seed always draws the same."""

import random

from triedagain.codes import Code
from triedagain.programs import Program, is_expression
from triedagain.shapes import size_of

NAMES = {"int": "iij", "text": "s", "list": "l", "kept": "k", "proc": "f"}
KINDS = tuple(NAMES)
TEXTS = ("", "a", "b", "ab", "ba", "aab", "abcab")


class Drawer:
    """Draws expressions that mostly have worths of the kinds that are wanted where they stand."""

    def __init__(self, seed):
        self.chance = random.Random(seed)
        self.params = {"main": ""}
        for name in "fgh"[:self.chance.randrange(4)]:
            self.params[name] = "".join(self.chance.sample("islk", self.chance.randrange(4)))
        self.in_keep = False
        self.wild = self.chance.choice([0, 0, 0, 0.01, 0.05])
        # Whether there is much going over texts.
        self.looks = self.chance.random() < 0.4

    def program(self):
        while True:
            procedures = [self.procedure(name) for name in self.params]
            if sum(size_of(part) for _, _, body in procedures for part in body) <= 200:
                return Program(procedures)

    def procedure(self, name):
        chance = self.chance
        body = [("give", "i", self.base("int")), ("give", "s", self.base("text")),
                ("give", "l", ("list", (("number", 1), ("text", "a"))))]
        body.append(("give", "k", self.keep(chance.randrange(2, 4))))
        body = [part for part in body if part[1] not in self.params[name]]
        for _ in range(chance.randrange(3)):
            body.append(self.draw(chance.choice(KINDS), chance.randrange(2, 6)))
        for _ in range(chance.randrange(1, 3)):
            last = self.draw(chance.choice(KINDS), chance.randrange(2, 7))
            if chance.random() < 0.5:
                last = ("or", last, self.draw("int", 2))
            last = (chance.choice(["out", "out", "out", "back"]), last) if chance.random() < 0.9 else last
            if self.looks:
                last = self.looking(last)
            body.append(last)
        return (name, tuple(self.params[name]), tuple(body[-8:]))

    def looking(self, last):
        """An out or back with the place of the look beside its worth, or within a scan."""
        chance = self.chance
        found = last
        if last[0] in ("out", "back") and chance.random() < 0.7:
            found = (last[0], ("list", (last[1], ("here",))))
        if size_of(last) < 40 and chance.random() < 0.5:
            inner = ("and", ("move", ("number", 1)), found) if chance.random() < 0.5 else found
            found = ("scan", ("text", chance.choice(TEXTS[3:])), inner)
        return found if is_expression(found) else last

    def base(self, kind):
        chance = self.chance
        if kind == "int":
            return ("number", chance.choice([-2, -1, 0, 1, 1, 2, 3, 5, 999]))
        if kind == "text":
            return ("text", chance.choice(TEXTS))
        if kind == "list":
            return ("list", ())
        if kind == "kept":
            return ("name", "k")
        return ("name", chance.choice(list(self.params)))

    def draw(self, kind, depth):
        chance = self.chance
        if chance.random() < self.wild:
            kind = chance.choice(KINDS)
        if depth <= 1:
            return self.base(kind) if chance.random() < 0.5 else ("name", chance.choice(NAMES[kind]))
        if chance.random() < 0.5:
            return getattr(self, "draw_" + kind)(depth - 1)
        return self.around(kind, depth - 1)

    def any(self, depth):
        return self.draw(self.chance.choice(KINDS), depth)

    def keep(self, depth):
        was, self.in_keep = self.in_keep, True
        found = ("keep", self.draw(self.chance.choice(["int", "text"]), depth))
        self.in_keep = was
        return found

    def around(self, kind, d):
        """An expression that has the worths of a part, or of a call or an ask."""
        chance = self.chance
        name = chance.choice(NAMES[kind])
        rows = [
            lambda: ("or", self.draw(kind, d), self.draw(kind, d)),
            lambda: ("or", self.draw(kind, d), self.draw(kind, d)),
            lambda: ("and", self.any(d), self.draw(kind, d)),
            lambda: ("first", self.draw(kind, d)),
            lambda: ("most", chance.choice([0, 1, 2, 2, 3]), self.draw(kind, d)),
            lambda: ("if", self.any(d), self.draw(kind, d), self.draw(kind, d)),
            lambda: ("do", tuple(self.any(d) for _ in range(chance.randrange(3))) + (self.draw(kind, d),)),
            lambda: ("give", name, self.draw(kind, d)),
            lambda: ("lend", name, self.draw(kind, d)),
            lambda: ("say", self.draw(kind, d)),
            lambda: ("scan", self.draw("text", d), self.draw(kind, d)),
            lambda: ("scan", self.draw("text", d), self.draw(kind, d)),
            lambda: ("most", 4, ("again", self.draw(kind, d - 1))) if d > 1 else self.base(kind),
            lambda: self.call(d),
            lambda: ("ask", self.draw("kept", d)),
            lambda: ("or", ("every", self.any(d - 1), self.any(d - 1)),
                     self.draw(kind, d)) if d > 1 else self.base(kind),
            lambda: ("or", ("no", self.any(d - 1)), self.draw(kind, d)) if d > 1 else self.base(kind),
            lambda: ("or", ("while", ("ask", ("name", "k")), self.any(d - 1)), self.draw(kind, d)) if d > 2
            else self.base(kind),
            lambda: ("test", chance.choice(["is", "isnt"]), self.any(d), self.draw(kind, d)),
        ]
        if not self.in_keep:
            rows.append(lambda: ("or", (chance.choice(["out", "out", "back"]), self.any(d - 1)), self.draw(kind, d))
                        if d > 1 else ("fall",))
            rows.append(lambda: ("and", ("out", self.draw(kind, d - 1)), self.draw(kind, d)) if d > 1 else ("fall",))
        return chance.choice(rows)()

    def call(self, d):
        name = self.chance.choice(list(self.params))
        kinds = {"i": "int", "s": "text", "l": "list", "k": "kept"}
        args = tuple(self.draw(kinds[param], d) for param in self.params[name])
        return ("call", ("name", name), args)

    def draw_int(self, d):
        chance = self.chance
        choice = chance.randrange(6, 9) if self.looks and chance.random() < 0.5 else chance.randrange(9)
        if choice < 2:
            return ("to", self.draw("int", d), self.draw("int", d))
        if choice < 4:
            word = chance.choice(["+", "-", "*", "/", "mod"])
            return ("op", word, self.draw("int", d), self.draw("int", d))
        if choice == 4:
            return ("test", chance.choice(["<", "<=", "=", "<>"]), self.draw("int", d), self.draw("int", d))
        if choice == 5:
            return ("size", self.draw(chance.choice(["text", "list"]), d))
        if choice == 6:
            return ("here",)
        return (chance.choice(["find", "reach", "many", "match"]), self.draw("text", d))

    def draw_text(self, d):
        chance = self.chance
        choice = 4 if self.looks and chance.random() < 0.5 else chance.randrange(6)
        if choice == 0:
            return ("op", ".", self.draw("text", d), self.draw("text", d))
        if choice == 1:
            return ("items", self.draw("text", d))
        if choice == 2:
            return ("at", self.draw("text", d), self.draw("int", d))
        if choice == 3:
            return ("test", chance.choice(["<", "<=", "=", "<>"]), self.draw("text", d), self.draw("text", d))
        return (chance.choice(["move", "tab"]), self.draw("int", d))

    def draw_list(self, d):
        chance = self.chance
        choice = chance.randrange(5 if d > 1 else 4)
        if choice < 2:
            return ("list", tuple(self.any(d) for _ in range(chance.randrange(5))))
        if choice == 2:
            return ("put", self.draw("list", d), self.any(d))
        if choice == 3:
            return ("place", self.draw("list", d), self.draw("int", d), self.any(d))
        return ("and", (chance.choice(["take", "items"]), self.draw("list", d - 1)), self.draw("list", d))

    def draw_kept(self, d):
        if self.chance.random() < 0.4:
            return ("anew", self.draw("kept", d))
        return self.keep(d)

    def draw_proc(self, d):
        return self.base("proc")


def drawn_program(seed):
    return Drawer(seed).program()


def plain_procedures(program):
    return [program.procedure(name) for name in program.names()]


# How often each instruction is drawn.
PLAIN = [
    ("worth",), ("worth",), ("worth",), ("name",), ("give",), ("lend",), ("drop",), ("deed",), ("list",), ("rows",),
    ("rows",), ("fail",), ("open",), ("open",), ("shut",), ("shut",), ("counter",), ("tick",), ("mark",), ("call",),
    ("back",), ("out",), ("out",), ("fall",), ("yield",), ("ask",), ("scan",), ("leave",),
]
NAMING = [("jump",), ("jump",), ("retry",), ("retry",), ("retry",), ("any",), ("keep",)]
DEEDS = ("+ - * / mod . < <= = <> is isnt put take size at place say here move tab many match anew").split()


def drawn_instruction(chance, many):
    word, = chance.choice(PLAIN + NAMING)
    if word in ("jump", "retry", "any", "keep"):
        return (word, chance.randrange(many))
    if word == "worth":
        return (word, chance.choice([None, 0, 1, 2, 3, "", "a", "aab"]))
    if word in ("name", "give", "lend"):
        return (word, chance.choice("abf"))
    if word == "deed":
        return (word, chance.choice(DEEDS))
    if word == "rows":
        return (word, chance.choice(["to", "items", "find", "reach"]))
    if word in ("list", "call"):
        return (word, chance.randrange(3))
    if word == "tick":
        return (word, chance.randrange(1, 4))
    return (word,)


CODED = Program([("main", (), ()), ("f", (), ()), ("g", ("a",), ())])


def tame_rows(chance, many):
    """Instructions of which each one mostly finds what it takes, if those ahead of it are done one by one."""
    rows, held, fences, scans = [], [], 0, 0
    while len(rows) < many:
        row = ("out",) if held[-1:] == ["worth"] and chance.random() < 0.15 else drawn_instruction(chance, many)
        word = row[0]
        if word in ("fail", "fall", "yield", "back") and chance.random() < 0.6:
            continue
        if word == "worth":
            held.append("worth")
        elif word in ("counter", "name", "keep"):
            held.append("worth" if word == "name" else word)
        elif word == "ask" and held[-1:] == ["keep"] or word == "rows" and row[1] != "to" and held[-1:] == ["worth"]:
            held[-1] = "worth"
        elif word == "any" and held[-1:] == ["counter"] or word == "drop" and held:
            held.pop()
        elif word in ("tick", "mark") and held[-2:-1] == ["counter"] and (fences or word == "mark"):
            held.pop(-2)
            fences -= word == "tick"
        elif word in ("give", "lend") and held[-1:] == ["worth"] or row in (("deed", "say"), ("deed", "size")) and held:
            pass
        elif row in (("deed", "+"), ("deed", "is"), ("deed", "isnt")) and held[-2:] == ["worth", "worth"]:
            held.pop()
        elif word in ("open", "shut"):
            fences = max(0, fences + (1 if word == "open" else -1))
        elif word in ("scan", "leave") and (scans if word == "leave" else held):
            scans += 1 if word == "scan" else -1
            held = held[:-1] if word == "scan" else held
        elif word == "list" and row[1] <= len(held):
            held = held[:len(held) - row[1]] + ["worth"]
        elif word in ("back", "out", "yield") and held[-1:] == ["worth"]:
            held.pop()
        elif word not in ("fail", "fall", "retry") and chance.random() < 0.9:
            continue
        rows.append(row)
    return rows


def drawn_code(seed):
    """Instructions by chance; some shapes that are to be shortened are drawn more often than chance has it."""
    chance = random.Random(seed)
    many = chance.choice([2, 4, 8, 16, 30])
    if chance.random() < 0.6:
        rows = tame_rows(chance, many)
    else:
        rows = [drawn_instruction(chance, many) for _ in range(many)]
    often = chance.choice([0.01, 0.06])
    for at in range(many - 1):
        luck = chance.random() / often
        if luck < 1:
            rows[at:at + 2] = [("open",), ("shut",)]
        elif luck < 2:
            rows[at] = ("jump", at + 1)
        elif luck < 3:
            rows[at:at + 2] = [("retry", chance.randrange(many)), ("fail",)]
        elif luck < 4:
            rows[at] = ("worth", chance.choice([1, 2, "ab"]))
    entries = {name: chance.randrange(many) for name in CODED.names()}
    if chance.random() < 0.7:
        entries["main"] = 0
    return Code(CODED, entries, rows)


def padded(code, seed):
    """The code with instructions put in that change nothing of what is told, and with jumps over dead ones."""
    chance = random.Random(seed)
    rows, places, waiting = [], [], code.rows()
    for row in waiting:
        places.append(len(rows))
        for _ in range(chance.choice([0, 0, 1, 2])):
            rows.extend(chance.choice([
                [("open",), ("shut",)], [("jump", None, 1)], [("retry", None, 2), ("jump", None, 2), ("fail",)],
                [("retry", None, 2), ("fail",)], [("jump", None, 2), ("drop",)],
                [("open",), ("jump", None, 1), ("shut",)],
            ]))
        rows.append(row)
    led = []
    for at, row in enumerate(rows):
        if len(row) == 3:
            led.append((row[0], at + row[2]))
        elif row[0] in ("jump", "retry", "any", "keep"):
            led.append((row[0], places[row[1]]))
        else:
            led.append(row)
    entries = {name: places[code.entry(name)] for name in code.program().names()}
    return Code(code.program(), entries, led)

