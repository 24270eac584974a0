"""The texts of expressions and programs: written and read."""

from triedagain.errors import NoExpression, NoText
from triedagain.programs import Program, is_expression
from triedagain.reading import Reader
from triedagain.shapes import ALONE, parts_of

# The signs in the middle of expressions that do not hold them as a word.
SIGNS = {"or": "|", "and": "&", "to": "to", "give": ":=", "lend": "<-"}


def expression_text(expression):
    if not is_expression(expression):
        raise NoExpression()
    return _told(expression)


def _told(expression):
    word = expression[0]
    if word in ALONE:
        return word
    if word == "name":
        return expression[1]
    if word == "number":
        return str(expression[1])
    if word == "text":
        return f"'{expression[1]}'"
    return _joined(expression, [_told(part) for part in parts_of(expression)])


def _joined(expression, parts):
    """The text of an expression with parts that have these texts."""
    word = expression[0]
    if word in ("op", "test"):
        return f"({parts[0]} {expression[1]} {parts[1]})"
    if word in ("or", "and", "to"):
        return f"({parts[0]} {SIGNS[word]} {parts[1]})"
    if word in ("give", "lend"):
        return f"({expression[1]} {SIGNS[word]} {parts[0]})"
    if word == "most":
        return f"most({expression[1]}, {parts[0]})"
    row = ", ".join(parts)
    if word == "list":
        return f"[{row}]"
    return f"{word}({row})"


def program_text(program):
    lines = []
    for name in program.names():
        _, params, body = program.procedure(name)
        row = ", ".join(params)
        lines.append(f"to {name}({row})")
        for expression in body:
            lines.append(f"  {_told(expression)}")
    return "\n".join(lines)


def read_expression(text):
    if not isinstance(text, str):
        raise NoText(-1, -1)
    reader = Reader(text)
    expression = reader.expression()
    reader.finish()
    if not is_expression(expression):
        raise NoExpression()
    return expression


def read_program(text):
    if not isinstance(text, str):
        raise NoText(-1, -1)
    return Program(Reader(text).procedures())
