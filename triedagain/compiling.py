"""Codes of programs, and shorter codes."""

from triedagain.codes import Code
from triedagain.emitting import Draft, emit_body
from triedagain.shortening import Links


def compiled(program):
    draft = Draft()
    entries = {}
    for name in program.names():
        entries[name] = draft.here()
        emit_body(draft, program.procedure(name)[2])
    return Code(program, entries, draft.lines)


def shortened(code):
    """A code that tells the same, without what does nothing and what cannot be reached."""
    program = code.program()
    rows = code.rows()
    links = Links(rows, {name: code.entry(name) for name in program.names()})
    links.shorten()
    entries, left = links.left(rows)
    return Code(program, entries, left)
