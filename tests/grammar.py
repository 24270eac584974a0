"""What right texts are, as a grammar, and the longest beginning of a text with which some right text begins.

This tells the same as triedagain.reading, but in another way: it follows all ways to write a text at once. A stack
is what must still stand behind a beginning: a pair of the first symbol and the rest, or None for nothing.
"""

DIGITS = "0123456789"
LETTERS = "abcdefghijklmnopqrstuvwxyz"
WORDS = (
    "mod nothing first no if most again to items every while do call back out fall keep ask anew scan move tab "
    "find reach many match here put take size at place say is isnt list"
).split()
STARTS = {word[:n] for word in WORDS for n in range(len(word) + 1)}
CALLS = {
    1: "first no again items back out keep ask anew move tab find reach many match take size say".split(),
    2: "every while scan put at".split(),
    3: "if place".split(),
}
SIGNS = "+ - * / mod . < <= = <> is isnt | & to".split()


class Letters:
    """The letters of a name behind these ones; "*" for ones that no word begins with."""

    def __init__(self, start):
        self.start = start

    def __eq__(self, other):
        return isinstance(other, Letters) and self.start == other.start

    def __hash__(self):
        return hash(self.start)

    def ways(self):
        found = []
        if self.start != "" and self.start not in WORDS:
            found.append([])
        for letter in LETTERS:
            behind = self.start + letter
            found.append([letter, Letters(behind if behind in STARTS else "*")])
        return found


def ways_of(*rows):
    """Each row is a string of signs, or a list of strings of signs and of names of rules in upper case."""
    found = []
    for row in rows:
        symbols = []
        for item in [row] if isinstance(row, str) else row:
            symbols.extend([item] if item in RULE_NAMES else list(item))
        found.append(symbols)
    return found


RULE_NAMES = ("NAME", "NUMBER", "AHEAD", "MORE", "SIGNS", "ROW", "REST", "ONE", "PAIRED", "NAMED", "PROGRAM", "TOS",
              "LINES", "PARAMS", "NAMES")


def expression_ways():
    rows = ["nothing", "fall", "here", ["NAME"], ["NUMBER"], ["'", "SIGNS", "'"], ["[", "ROW", "]"]]
    rows.append(["do(", "ROW", ")"])
    rows.append(["call(", "ONE", "REST", ")"])
    rows.append(["most(", "NUMBER", ", ", "ONE", ")"])
    rows.append(["(", "ONE", "PAIRED"])
    rows.append(["(", "NAME", "NAMED"])
    for many in CALLS:
        for word in CALLS[many]:
            rows.append([word + "(", "ONE"] + [", ", "ONE"] * (many - 1) + [")"])
    return ways_of(*rows)


TEXT_SIGNS = [chr(n) for n in range(32, 127) if chr(n) not in "'%"]
RULES = {
    "NAME": [[Letters("")]],
    "NUMBER": ways_of("0", ["-", "AHEAD"], ["AHEAD"]),
    "AHEAD": ways_of(*[[digit, "MORE"] for digit in DIGITS[1:]]),
    "MORE": ways_of([], *[[digit, "MORE"] for digit in DIGITS]),
    "SIGNS": ways_of([], *[[sign, "SIGNS"] for sign in TEXT_SIGNS]),
    "ROW": ways_of([], ["ONE", "REST"]),
    "REST": ways_of([], [", ", "ONE", "REST"]),
    "ONE": expression_ways(),
    "PAIRED": ways_of(*[[" " + sign + " ", "ONE", ")"] for sign in SIGNS]),
    "NAMED": ways_of(*[[" " + sign + " ", "ONE", ")"] for sign in (":=", "<-")]),
    "PROGRAM": ways_of(["to ", "NAME", "(", "PARAMS", ")", "LINES", "TOS"]),
    "TOS": ways_of([], ["\n", "PROGRAM"]),
    "LINES": ways_of([], ["\n  ", "ONE", "LINES"]),
    "PARAMS": ways_of([], ["NAME", "NAMES"]),
    "NAMES": ways_of([], [", ", "NAME", "NAMES"]),
}


def put(symbols, stack):
    for symbol in reversed(symbols):
        stack = (symbol, stack)
    return stack


def opened(stack):
    """The stacks that begin with a sign, or are at an end, into which a stack can be made."""
    found = []
    waiting = [stack]
    while waiting:
        stack = waiting.pop()
        if stack is None:
            found.append(stack)
            continue
        symbol, rest = stack
        if isinstance(symbol, Letters):
            waiting.extend([put(way, rest) for way in symbol.ways()])
        elif len(symbol) == 1:
            found.append(stack)
        else:
            waiting.extend([put(way, rest) for way in RULES[symbol]])
    return found


OPENED = {}
BEHIND = {}


def all_opened(stacks):
    if stacks not in OPENED:
        OPENED[stacks] = frozenset([found for stack in stacks for found in opened(stack)])
    return OPENED[stacks]


def behind(stacks, sign):
    if (stacks, sign) not in BEHIND:
        fitting = [stack for stack in all_opened(stacks) if stack is not None and stack[0] == sign]
        BEHIND[(stacks, sign)] = frozenset([stack[1] for stack in fitting])
    return BEHIND[(stacks, sign)]


def fault(text, rule="ONE"):
    """None for a right text, otherwise the line and column of the sign behind its longest right beginning."""
    stacks = frozenset([(rule, None)])
    for at, sign in enumerate(text):
        stacks = behind(stacks, sign)
        if not stacks:
            return place_of(text, at)
    if None in all_opened(stacks):
        return None
    return place_of(text, len(text))


def place_of(text, at):
    lines = text[:at].split("\n")
    return (len(lines) - 1, len(lines[-1]))
