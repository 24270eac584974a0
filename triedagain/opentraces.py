"""Whether open expressions leave something behind where they give nothing, and papers that show that they do not."""

from triedagain.errors import NoEnvironment
from triedagain.openlead import is_result, led, results_in
from triedagain.openparts import all_pass, in_order, is_atom, spot_at, spots_with
from triedagain.opens import most_names, opened, row_names, written
from triedagain.openverdicts import check_wide
from triedagain.openways import assignments, facts_for, fresh_atoms, kind_of, rows_of_facts, ways_of
from triedagain.shapes import frozen, is_row


def trace(expression):
    expression = opened(expression)
    check_wide(expression, expression)
    names = row_names(expression)
    fewest = None
    least_many = 0
    for spot, given in _ways_to_lasts(expression):
        many = len(in_order(list(given.values())))
        if fewest is None or many < least_many:
            rows = _least(spot, given, names)
            if len(results_in(expression, rows)) == 0:
                fewest, least_many = rows, many
    return fewest


def is_trace(expression, thing):
    try:
        row, lasting = led(expression, thing)
    except NoEnvironment:
        return False
    return len(row) == 0 and len(lasting) > 0


def trace_paper(expression):
    expression = opened(expression)
    check_wide(expression, expression)
    names = row_names(expression)
    paper = []
    for spot, given in _ways_to_lasts(expression):
        results = results_in(expression, _least(spot, given, names))
        if len(results) == 0:
            return None
        paper.append((spot.path, given, results[0]))
    return paper


def is_trace_paper(expression, thing):
    expression = opened(expression)
    if not is_row(thing):
        return False
    known = written(expression)
    names = row_names(expression)
    gives = ways_of(expression)
    shown = {}
    for item in thing:
        if not is_row(item) or len(item) != 3:
            return False
        place, given, result = item
        spot = spot_at(expression, place)
        if spot is None or not _is_way_to(given, spot) or not _comes(result, gives, _least(spot, given, names)):
            return False
        shown[(spot.path, kind_of(given, known))] = True
    for spot, given in _ways_to_lasts(expression):
        if (spot.path, kind_of(given, known)) not in shown:
            return False
    return True


def _ways_to_lasts(expression):
    """Yields each last with each kind of ways to it."""
    known = written(expression)
    fresh = fresh_atoms(most_names(expression), known)
    for spot in spots_with("last", expression):
        named = sorted(spot.names_around())
        for given in assignments(named, spot.tests, known, fresh):
            yield (spot, given)


def _least(spot, given, names):
    """The least environment of a way to a last."""
    return rows_of_facts(facts_for(spot.eaches, given), names)


def _is_way_to(value, spot):
    """Whether any value is a way to this part, which is a last."""
    named = spot.names_around()
    if spot.part[0] != "last" or not isinstance(value, dict) or len(value) != len(named):
        return False
    if not all([name in value and is_atom(value[name]) for name in named]):
        return False
    return all_pass(spot.tests, value)


def _comes(value, gives, rows):
    """Whether any value is a result that one of these ways gives where names have these rows."""
    if not is_result(value):
        return False
    worth, names = frozen(value)
    given = dict(names)
    for way in gives:
        if names == tuple([(name, given.get(name)) for name in way.named]) and way.worth(given) == worth:
            if all([given[name] in rows[row] for name, row, _ in way.eaches]):
                return True
    return False
