"""What open expressions are made of: atoms, items, tests and parts.

Tests are tuples, as in all expressions that are returned; "given" is a dict that gives each name its atom.
"""

from triedagain.shapes import is_integer, is_name, is_row

LONGEST_ATOM = 20
MOST_ATOMS = 16
MOST_ITEMS = 3
# How long the tuples of each word are, and at which indexes parts stand in them.
LENGTHS = {"none": 1, "give": 2, "each": 4, "choice": 3, "when": 3, "last": 4}
BODIES = {"none": (), "give": (), "each": (3,), "choice": (1, 2), "when": (2,), "last": (3,)}


class Spot:
    """A part of an open expression, with the path to it (its place) and what is around it, from outside inward."""

    def __init__(self, path, part, eaches, tests):
        self.path = path
        self.part = part
        # Each one as (name, row name, length of the path to it).
        self.eaches = eaches
        self.tests = tests

    def names_around(self):
        """The names that are given around the part."""
        return tuple([name for name, _, _ in self.eaches])


def is_atom(value):
    if is_integer(value):
        return True
    if not isinstance(value, str) or len(value) > LONGEST_ATOM:
        return False
    # 37 is the percent sign.
    return all([" " <= sign <= "~" and ord(sign) != 37 for sign in value])


def is_atom_row(value):
    """Whether this is a row that an environment may give: not too many atoms, all of them unlike."""
    if not is_row(value) or len(value) > MOST_ATOMS or not all([is_atom(atom) for atom in value]):
        return False
    return len(set(value)) == len(value)


def is_item(value, names):
    """Whether this is an item where these names are given."""
    if not is_row(value) or len(value) != 2:
        return False
    if value[0] == "name":
        return isinstance(value[1], str) and value[1] in names
    return value[0] == "atom" and is_atom(value[1])


def is_test_row(value):
    """Whether this is a test, but for its items."""
    return is_row(value) and len(value) == 3 and value[0] in ("alike", "unlike")


def is_test(value, names):
    return is_test_row(value) and is_item(value[1], names) and is_item(value[2], names)


def opposite(test):
    return ("unlike" if test[0] == "alike" else "alike", test[1], test[2])


def atom_of(item, given):
    return item[1] if item[0] == "atom" else given[item[1]]


def passes(test, given):
    return (atom_of(test[1], given) == atom_of(test[2], given)) == (test[0] == "alike")


def all_pass(tests, given):
    return all([passes(test, given) for test in tests])


def worth_of(items, given):
    return tuple([atom_of(item, given) for item in items])


def items_of(part):
    """The items that stand in a part itself, not in what is within it."""
    if part[0] == "give":
        return part[1]
    if part[0] == "when":
        return part[1][1:]
    return (part[2],) if part[0] == "last" else ()


def spots_of(expression):
    """All parts of an open expression, each one ahead of what is in it."""
    found = []
    waiting = [Spot((), expression, (), ())]
    while len(waiting) > 0:
        spot = waiting.pop()
        found.append(spot)
        part = spot.part
        eaches, tests = spot.eaches, spot.tests
        if part[0] == "each":
            eaches = eaches + ((part[1], part[2], len(spot.path)),)
        elif part[0] == "when":
            tests = tests + (part[1],)
        for index in reversed(BODIES[part[0]]):
            waiting.append(Spot(spot.path + (index,), part[index], eaches, tests))
    return found


def spots_with(word, expression):
    """The parts of this word."""
    return [spot for spot in spots_of(expression) if spot.part[0] == word]


def spot_at(expression, place):
    """The part at a place; None for any value that is no place of a part."""
    if not is_row(place) or not all([is_integer(index) for index in place]):
        return None
    for spot in spots_of(expression):
        if spot.path == tuple(place):
            return spot
    return None


def in_order(atoms):
    """The different ones of a row of atoms, integers ahead of strings."""
    integers = [atom for atom in atoms if is_integer(atom)]
    strings = [atom for atom in atoms if not is_integer(atom)]
    return sorted(set(integers)) + sorted(set(strings))


def own_fault(value, names):
    """Where the first thing stands that is wrong with a part, all but what is within it; None if nothing is.

    The names are those that are given around it.
    """
    if not is_row(value) or len(value) == 0 or not isinstance(value[0], str):
        return ()
    word = value[0]
    if word not in LENGTHS or len(value) != LENGTHS[word]:
        return ()
    if word in FAULTS:
        action = FAULTS[word]
        return action(value, names)
    return None


def _give_fault(value, names):
    if not is_row(value[1]) or len(value[1]) > MOST_ITEMS:
        return (1,)
    for index, item in enumerate(value[1]):
        if not is_item(item, names):
            return (1, index)
    return None


def _each_fault(value, names):
    if not is_name(value[1]) or value[1] in names:
        return (1,)
    return None if is_name(value[2]) else (2,)


def _when_fault(value, names):
    if not is_test_row(value[1]):
        return (1,)
    for index in (1, 2):
        if not is_item(value[1][index], names):
            return (1, index)
    return None


def _last_fault(value, names):
    if not is_name(value[1]):
        return (1,)
    return None if is_item(value[2], names) else (2,)


FAULTS = {"give": _give_fault, "each": _each_fault, "when": _when_fault, "last": _last_fault}
