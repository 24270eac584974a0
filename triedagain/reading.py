"""Reads right texts, sign by sign. What is read may still be no expression: too deep, too long or too great.

Nothing here calls itself, so that a text may have any number of nestings: what is begun and not ended waits in a
list. And nothing is read ahead of a sign that cannot stand where it does, so the place of the reader is always the
place of the error.
"""

from triedagain.errors import NoText
from triedagain.shapes import ALONE, SHAPES, WORDS, is_letter, is_text_sign

NEVER_FIRST = ("mod", "to", "is", "isnt", "list")
# What stands between two expressions, and the beginning of the tuple that this makes of them.
MIDDLES = {
    " + ": ("op", "+"), " - ": ("op", "-"), " * ": ("op", "*"), " / ": ("op", "/"),
    " mod ": ("op", "mod"), " . ": ("op", "."),
    " < ": ("test", "<"), " <= ": ("test", "<="), " = ": ("test", "="), " <> ": ("test", "<>"),
    " is ": ("test", "is"), " isnt ": ("test", "isnt"),
    " | ": ("or",), " & ": ("and",), " to ": ("to",),
}
# What stands between a name and an expression besides these.
NAMINGS = {" := ": "give", " <- ": "lend"}
# A number of more signs than this is beyond all numbers of expressions, and so is the number that stands for it.
# (Python itself reads no numbers of many thousand digits.)
LONGEST_NUMBER = 4
BEYOND = 1000


class Pair:
    """A bracket with two expressions in it, or a name and an expression."""

    def __init__(self):
        self.parts = []
        self.middle = ""

    def follows(self):
        """All that may stand behind the part that was read last."""
        if len(self.parts) == 2:
            return [")"]
        if self.parts[0][0] == "name":
            return list(MIDDLES) + list(NAMINGS)
        return list(MIDDLES)

    def takes(self, followed):
        """Takes what follows the last part, and tells whether one more part comes."""
        if followed == ")":
            return False
        self.middle = followed
        return True

    def built(self):
        left, right = self.parts
        if self.middle in NAMINGS:
            return (NAMINGS[self.middle], left[1], right)
        return MIDDLES[self.middle] + (left, right)


class Row:
    """A word, or none for a list, with a row of parts in brackets behind it."""

    def __init__(self, head, close):
        self.head = head
        self.close = close
        self.parts = []

    def follows(self):
        """All that may stand behind the part that was read last."""
        if self.head[0] in ("list", "do", "call"):
            return [", ", self.close]
        if len(self.parts) < SHAPES[self.head[0]].count("part"):
            return [", "]
        return [self.close]

    def takes(self, followed):
        """Takes what follows the last part, and tells whether one more part comes."""
        return followed != self.close

    def built(self):
        if self.head[0] in ("list", "do"):
            return (self.head[0], tuple(self.parts))
        if self.head[0] == "call":
            return ("call", self.parts[0], tuple(self.parts[1:]))
        return self.head + tuple(self.parts)


class Reader:
    """A text and the place up to which it is read. All that reads raises NoText at a sign that cannot stand there."""

    def __init__(self, text):
        self.text = text
        self.at = 0

    def sign(self):
        """The next sign, or none at the end of the text."""
        return self.text[self.at:self.at + 1]

    def refuse(self):
        line = self.text.count("\n", 0, self.at)
        column = self.at - self.text.rfind("\n", 0, self.at) - 1
        raise NoText(line, column)

    def finish(self):
        """Nothing more may stand in the text."""
        if self.at < len(self.text):
            self.refuse()

    def one_of(self, words):
        """Reads one of these words, none of which is the beginning of another one, and returns it."""
        for word in words:
            if self.text.startswith(word, self.at):
                self.at += len(word)
                return word
        # The error stands behind all that is still the beginning of one of them.
        many = 1
        while any([self.text.startswith(word[:many], self.at) for word in words]):
            many += 1
        self.at += many - 1
        self.refuse()

    def letters(self):
        start = self.at
        while is_letter(self.sign()):
            self.at += 1
        return self.text[start:self.at]

    def free_name(self):
        word = self.letters()
        if word == "" or word in WORDS:
            self.refuse()
        return word

    def number(self):
        start = self.at
        if self.sign() == "0":
            self.at += 1
            return 0
        if self.sign() == "-":
            self.at += 1
        if not "1" <= self.sign() <= "9":
            self.refuse()
        while "0" <= self.sign() <= "9":
            self.at += 1
        if self.at - start > LONGEST_NUMBER:
            return BEYOND
        return int(self.text[start:self.at])

    def quoted(self):
        self.one_of(["'"])
        start = self.at
        while is_text_sign(self.sign()):
            self.at += 1
        self.one_of(["'"])
        return self.text[start:self.at - 1]

    def expression(self):
        begun = []
        while True:
            done = self.begin(begun)
            while done is not None and len(begun) > 0:
                done = self.go_on(begun, done)
            if done is not None:
                return done

    def begin(self, begun):
        """Reads an expression without parts; or puts what another one begins with to the begun ones, for None."""
        sign = self.sign()
        if is_letter(sign):
            return self.begin_word(begun)
        if sign == "'":
            return ("text", self.quoted())
        if sign == "(":
            self.at += 1
            begun.append(Pair())
            return None
        if sign == "[":
            self.at += 1
            return self.begin_row(begun, Row(("list",), "]"))
        return ("number", self.number())

    def begin_word(self, begun):
        word = self.letters()
        if word not in WORDS:
            return ("name", word)
        if word in ALONE:
            return (word,)
        if word in NEVER_FIRST:
            self.refuse()
        self.one_of(["("])
        if word == "most":
            most = self.number()
            self.one_of([", "])
            begun.append(Row(("most", most), ")"))
            return None
        return self.begin_row(begun, Row((word,), ")"))

    def begin_row(self, begun, row):
        """Lists and do alone may have no parts."""
        if row.head[0] in ("list", "do") and self.sign() == row.close:
            self.at += 1
            return row.built()
        begun.append(row)
        return None

    def go_on(self, begun, part):
        """Gives a part to the expression that was begun last. Returns this, if it has all its parts now."""
        last = begun[-1]
        last.parts.append(part)
        if last.takes(self.one_of(last.follows())):
            return None
        begun.pop()
        return last.built()

    def procedures(self):
        """Reads the whole text as that of a program."""
        found = []
        begins = self.one_of(["to "])
        while True:
            if begins == "\n  ":
                found[-1][2].append(self.expression())
            else:
                name = self.free_name()
                found.append((name, self.parameters(), []))
            if self.at == len(self.text):
                return found
            begins = self.one_of(["\n  ", "\nto "])

    def parameters(self):
        self.one_of(["("])
        if self.sign() == ")":
            self.at += 1
            return []
        params = [self.free_name()]
        while self.one_of([", ", ")"]) == ", ":
            params.append(self.free_name())
        return params
