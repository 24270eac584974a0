"""Open expressions: what is one, and what stands in it."""

from triedagain.errors import NoOpen, NoPlace
from triedagain.openparts import BODIES, in_order, items_of, own_fault, spot_at, spots_of, spots_with
from triedagain.shapes import frozen

MOST_PARTS = 40
DEEPEST = 12
MOST_NAMES = 3
MOST_ROWS = 3
MOST_VARIABLES = 3


def open_fault(thing):
    found = []
    waiting = [((), thing, ())]
    while len(waiting) > 0:
        place, part, names = waiting.pop()
        fault = own_fault(part, names)
        if fault is not None:
            return place + fault
        found.append((place, part, names))
        if part[0] == "each":
            names = names + (part[1],)
        # The last one put is the first one taken.
        for index in reversed(BODIES[part[0]]):
            waiting.append((place + (index,), part[index], names))
    return None if _is_within_bounds(found) else ()


def _is_within_bounds(found):
    """Whether parts, each as (place, part, names given around it), are not too many, nor too deep and so on."""
    if len(found) > MOST_PARTS:
        return False
    if any([len(place) >= DEEPEST or len(names) > MOST_NAMES for place, _, names in found]):
        return False
    rows = [part[2] for _, part, _ in found if part[0] == "each"]
    lasting = [part[1] for _, part, _ in found if part[0] == "last"]
    return len(set(rows)) <= MOST_ROWS and len(set(lasting)) <= MOST_VARIABLES


def is_open(thing):
    return open_fault(thing) is None


def opened(thing):
    """The open expression with a tuple for each row in it; raises NoOpen."""
    fault = open_fault(thing)
    if fault is not None:
        raise NoOpen(fault)
    return frozen(thing)


def given_names(expression):
    return sorted(set([spot.part[1] for spot in spots_with("each", opened(expression))]))


def row_names(expression):
    return sorted(set([spot.part[2] for spot in spots_with("each", opened(expression))]))


def variables(expression):
    return sorted(set([spot.part[1] for spot in spots_with("last", opened(expression))]))


def written(expression):
    items = []
    for spot in spots_of(opened(expression)):
        items.extend(items_of(spot.part))
    return in_order([item[1] for item in items if item[0] == "atom"])


def most_names(expression):
    return max([len(spot.eaches) for spot in spots_of(opened(expression))])


def ways(expression):
    return len(spots_with("give", opened(expression)))


def open_part(expression, place):
    spot = spot_at(opened(expression), place)
    if spot is None:
        raise NoPlace(place)
    return spot.part
