"""Codes: the instructions of a program for the machine."""

from triedagain.deeds import ROW_TAKEN, TAKEN
from triedagain.errors import NoCode, NoName
from triedagain.shapes import field_fits, is_integer, is_name, is_row

MOST_ROWS = 9000
# What stands behind the word of each instruction: nothing, or one thing of this kind.
INSTRUCTIONS = {
    "worth": "worth", "name": "name", "give": "name", "lend": "name", "drop": "", "deed": "deed", "list": "items",
    "rows": "rows", "jump": "place", "retry": "place", "fail": "", "open": "", "shut": "", "counter": "",
    "tick": "tick", "mark": "", "any": "place", "call": "worths", "back": "", "out": "", "fall": "",
    "keep": "place", "yield": "", "ask": "", "scan": "", "leave": "",
}
# The least and the greatest of the integers that stand in instructions.
NUMBERS = {"items": (0, 4), "tick": (1, 20), "worths": (0, 3)}


class Code:
    """The instructions of a program, and where each procedure begins; it cannot be changed."""

    def __init__(self, program, entries, rows):
        self._program = program
        _check_rows(rows)
        _check_entries(program, entries, len(rows))
        for index, item in enumerate(rows):
            if not _is_instruction(item, len(rows)):
                raise NoCode(index)
        self._entries = dict(entries)
        self._rows = tuple([tuple(item) for item in rows])

    def program(self):
        return self._program

    def entry(self, name):
        if not isinstance(name, str) or name not in self._entries:
            raise NoName(name)
        return self._entries[name]

    def rows(self):
        return list(self._rows)

    def __len__(self):
        return len(self._rows)

    def __eq__(self, other):
        if not isinstance(other, Code) or self._program != other._program:
            return False
        return self._entries == other._entries and self._rows == other._rows


def _check_rows(rows):
    if not is_row(rows) or not 1 <= len(rows) <= MOST_ROWS:
        raise NoCode(-1)


def _check_entries(program, entries, length):
    """The entries give just the names of the procedures places of instructions."""
    if not isinstance(entries, dict) or len(entries) != len(program.names()):
        raise NoCode(-2)
    for name in program.names():
        if name not in entries or not _is_place(entries[name], length):
            raise NoCode(-2)


def _is_place(value, length):
    return is_integer(value) and 0 <= value < length


def _is_instruction(item, length):
    if not is_row(item) or len(item) == 0:
        return False
    word = item[0]
    if not isinstance(word, str) or word not in INSTRUCTIONS:
        return False
    kind = INSTRUCTIONS[word]
    if kind == "":
        return len(item) == 1
    return len(item) == 2 and _thing_fits(kind, item[1], length)


def _thing_fits(kind, thing, length):
    """Whether a thing of this kind may stand in an instruction of a code of this length."""
    if kind == "worth":
        return thing is None or field_fits("number", thing) or field_fits("text", thing)
    if kind == "name":
        return is_name(thing)
    if kind == "place":
        return _is_place(thing, length)
    if kind in NUMBERS:
        least, greatest = NUMBERS[kind]
        return is_integer(thing) and least <= thing <= greatest
    if not isinstance(thing, str):
        return False
    return thing in TAKEN if kind == "deed" else thing in ROW_TAKEN
