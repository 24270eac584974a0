"""The instructions of expressions.

Those of an expression put one more worth, and go back if it fails; where they are done again, fences and scans are
again what they were. Fences, scans and what else is held are few for each level of nesting, so no row gets full.
"""

from triedagain.deeds import ROW_TAKEN
from triedagain.shapes import parts_of


class Draft:
    """The instructions so far. A place that is not known yet is filled in when it is reached."""

    def __init__(self):
        self.lines = []

    def here(self):
        return len(self.lines)

    def put(self, *row):
        """Puts an instruction and returns its place."""
        self.lines.append(row)
        return len(self.lines) - 1

    def lead_here(self, place):
        """The instruction at this place names the next one that is put."""
        self.lines[place] = (self.lines[place][0], len(self.lines))


def emit(draft, expression):
    word = expression[0]
    if word in EMITTERS:
        action = EMITTERS[word]
        action(draft, expression)
        return
    # The expression is strict.
    for part in parts_of(expression):
        emit(draft, part)
    _emit_deed(draft, expression)


def _emit_deed(draft, expression):
    word = expression[0]
    if word in ("nothing", "number", "text"):
        draft.put("worth", expression[1] if len(expression) > 1 else None)
    elif word in ("name", "give", "lend"):
        draft.put(word, expression[1])
    elif word == "list":
        draft.put("list", len(expression[1]))
    elif word == "call":
        draft.put("call", len(expression[2]))
    elif word == "ask":
        draft.put("ask")
    elif word in ROW_TAKEN:
        draft.put("rows", word)
    else:
        draft.put("deed", expression[1] if word in ("op", "test") else word)


def emit_body(draft, body):
    for expression in body:
        _emit_given_up(draft, expression)
    draft.put("fail")


def _emit_trial(draft, expression):
    """Asks an expression within a fence, and returns the retry that is to lead to where it failed."""
    draft.put("open")
    failed = draft.put("retry", 0)
    emit(draft, expression)
    return failed


def _emit_given_up(draft, expression):
    """Asks an expression once; both ways lead to the shut, which finds the same fence on both."""
    failed = _emit_trial(draft, expression)
    draft.put("drop")
    draft.lead_here(failed)
    draft.put("shut")


def _emit_first(draft, expression):
    draft.put("open")
    emit(draft, expression[1])
    draft.put("shut")


def _emit_or(draft, expression):
    second = draft.put("retry", 0)
    emit(draft, expression[1])
    behind = draft.put("jump", 0)
    draft.lead_here(second)
    emit(draft, expression[2])
    draft.lead_here(behind)


def _emit_and(draft, expression):
    emit(draft, expression[1])
    draft.put("drop")
    emit(draft, expression[2])


def _emit_no(draft, expression):
    failed = _emit_trial(draft, expression[1])
    draft.put("shut")
    draft.put("fail")
    draft.lead_here(failed)
    draft.put("shut")
    draft.put("worth", None)


def _emit_if(draft, expression):
    failed = _emit_trial(draft, expression[1])
    draft.put("drop")
    draft.put("shut")
    emit(draft, expression[2])
    behind = draft.put("jump", 0)
    draft.lead_here(failed)
    draft.put("shut")
    emit(draft, expression[3])
    draft.lead_here(behind)


def _emit_most(draft, expression):
    most = expression[1]
    if most == 0:
        draft.put("fail")
        return
    draft.put("counter")
    draft.put("open")
    emit(draft, expression[2])
    draft.put("tick", most)


def _emit_again(draft, expression):
    begin = draft.put("counter")
    failed = draft.put("retry", 0)
    emit(draft, expression[1])
    draft.put("mark")
    behind = draft.put("jump", 0)
    draft.lead_here(failed)
    draft.put("any", begin)
    draft.lead_here(behind)


def _emit_while(draft, expression):
    begin = draft.put("open")
    emit(draft, expression[1])
    draft.put("drop")
    draft.put("shut")
    _emit_given_up(draft, expression[2])
    draft.put("jump", begin)


def _emit_every(draft, expression):
    emit(draft, expression[1])
    draft.put("drop")
    _emit_given_up(draft, expression[2])
    draft.put("fail")


def _emit_do(draft, expression):
    row = expression[1]
    for part in row[:-1]:
        _emit_given_up(draft, part)
    emit(draft, row[-1])


def _emit_back(draft, expression):
    failed = draft.put("retry", 0)
    emit(draft, expression[1])
    draft.put("back")
    draft.lead_here(failed)
    draft.put("fall")


def _emit_out(draft, expression):
    emit(draft, expression[1])
    draft.put("out")
    draft.put("fail")


def _emit_fall(draft, expression):
    draft.put("fall")


def _emit_keep(draft, expression):
    behind = draft.put("keep", 0)
    emit(draft, expression[1])
    draft.put("yield")
    draft.lead_here(behind)


def _emit_scan(draft, expression):
    emit(draft, expression[1])
    draft.put("scan")
    emit(draft, expression[2])
    draft.put("leave")


EMITTERS = {
    "first": _emit_first, "or": _emit_or, "and": _emit_and, "no": _emit_no, "if": _emit_if, "most": _emit_most,
    "again": _emit_again, "while": _emit_while, "every": _emit_every, "do": _emit_do, "back": _emit_back,
    "out": _emit_out, "fall": _emit_fall, "keep": _emit_keep, "scan": _emit_scan,
}
