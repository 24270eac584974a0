"""Programs, and the ways into expressions."""

from triedagain.errors import NoExpression, NoName, NoPlace, NoProgram
from triedagain.shapes import fits, frozen, is_integer, is_name, is_row, parts_of, size_of, with_parts

MOST_PROCEDURES = 6
MOST_PARAMS = 3
LONGEST_BODY = 8
MOST_EXPRESSIONS = 200


class Program:
    """A program of procedures; it cannot be changed."""

    def __init__(self, procedures):
        self._procedures = _checked(procedures)

    def names(self):
        return [procedure[0] for procedure in self._procedures]

    def procedure(self, name):
        for procedure in self._procedures:
            if procedure[0] == name:
                return procedure
        raise NoName(name)

    def __eq__(self, other):
        return isinstance(other, Program) and self._procedures == other._procedures


def _checked(procedures):
    """The procedures as tuples; raises NoProgram."""
    if not is_row(procedures) or not 1 <= len(procedures) <= MOST_PROCEDURES:
        raise NoProgram(-1, -1)
    names = []
    many = 0
    for index, item in enumerate(procedures):
        if not _is_headed(item, names):
            raise NoProgram(index, -1)
        for part, expression in enumerate(item[2]):
            if not is_expression(expression):
                raise NoProgram(index, part)
            many += size_of(expression)
            if many > MOST_EXPRESSIONS:
                raise NoProgram(index, part)
        names.append(item[0])
    return frozen(procedures)


def _is_headed(item, names):
    """Whether an item behind procedures with these names may be one, but for the expressions in its body."""
    if not is_row(item) or len(item) != 3:
        return False
    name, params, body = item
    if not is_name(name) or name in names or not _are_params(params):
        return False
    if len(names) == 0 and (name != "main" or len(params) > 0):
        return False
    return is_row(body) and len(body) <= LONGEST_BODY


def _are_params(params):
    if not is_row(params) or len(params) > MOST_PARAMS:
        return False
    return all([is_name(param) for param in params]) and len(set(params)) == len(params)


def is_expression(value):
    return fits(value)


def walk(expression):
    """Yields each (path, part) of the expression, a part ahead of all that is in it."""
    if not is_expression(expression):
        raise NoExpression()
    waiting = [((), frozen(expression))]
    while len(waiting) > 0:
        path, part = waiting.pop()
        yield (path, part)
        below = parts_of(part)
        # The last one put is the first one taken, so the parts are put from the last to the first.
        for index in reversed(range(len(below))):
            waiting.append((path + (index,), below[index]))


def part_at(expression, path):
    if not is_expression(expression):
        raise NoExpression()
    if not is_row(path):
        raise NoPlace(path)
    part = frozen(expression)
    for index in path:
        below = parts_of(part)
        if not is_integer(index) or not 0 <= index < len(below):
            raise NoPlace(path)
        part = below[index]
    return part


def with_part(expression, path, part):
    """The expression with this part in the place of the one to which the path leads."""
    part_at(expression, path)
    if not is_expression(part):
        raise NoExpression()
    whole = _replaced(frozen(expression), path, frozen(part))
    # A part may be too deep for its new place, or leave a keep there.
    if not is_expression(whole):
        raise NoExpression()
    return whole


def _replaced(expression, path, part):
    if len(path) == 0:
        return part
    below = parts_of(expression)
    below[path[0]] = _replaced(below[path[0]], path[1:], part)
    return with_parts(expression, below)
