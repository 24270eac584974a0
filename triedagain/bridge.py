"""The bridge: from an open expression and its rows to an expression of programs that gives the same worths."""

from triedagain.errors import NoBridge
from triedagain.openlead import rows_for
from triedagain.openparts import spots_of, spots_with
from triedagain.opens import opened, row_names, written
from triedagain.shapes import field_fits, is_integer

DEEPEST = 4
LONGEST_ROW = 4
TESTS = {"alike": "is", "unlike": "isnt"}


def bridged(expression, environment):
    expression = opened(expression)
    rows = rows_for(environment, row_names(expression))
    if len(spots_with("last", expression)) > 0 or any([len(spot.path) >= DEEPEST for spot in spots_of(expression)]):
        raise NoBridge()
    if any([len(rows[name]) > LONGEST_ROW for name in rows]):
        raise NoBridge()
    atoms = written(expression)
    for name in rows:
        atoms.extend(rows[name])
    if not all([field_fits("number", atom) or field_fits("text", atom) for atom in atoms]):
        raise NoBridge()
    return _bridge(expression, rows)


def _bridge(part, rows):
    word = part[0]
    if word == "none":
        return ("no", ("nothing",))
    if word == "give":
        return ("list", tuple([_item(item) for item in part[1]]))
    if word == "choice":
        return ("or", _bridge(part[1], rows), _bridge(part[2], rows))
    if word == "when":
        told, item, other = part[1]
        return ("and", ("test", TESTS[told], _item(item), _item(other)), _bridge(part[2], rows))
    atoms = ("list", tuple([_atom(atom) for atom in rows[part[2]]]))
    # Lent, so that the name is not given any more behind the last result.
    return ("and", ("lend", part[1], ("items", atoms)), _bridge(part[3], rows))


def _item(item):
    return ("name", item[1]) if item[0] == "name" else _atom(item[1])


def _atom(atom):
    return ("number", atom) if is_integer(atom) else ("text", atom)
