"""Environments, which give the rows that open expressions ask, and what expressions give there."""

from triedagain.errors import NoAtoms, NoEnvironment, NoRelation
from triedagain.openparts import BODIES, atom_of, in_order, is_atom, is_atom_row, passes, worth_of
from triedagain.opens import opened, row_names
from triedagain.shapes import frozen, is_name, is_row

RELATIONS = ("same", "begins", "bag", "set", "within")
QUALITIES = ("empty", "single", "once")


class Leading:
    """Leads an open expression where names have these rows: collects the results and what lasts."""

    def __init__(self, rows):
        self.asked = rows
        self.given = {}
        self.results = []
        self.lasting = {}

    def lead(self, part):
        word = part[0]
        if word == "give":
            names = tuple([(name, self.given[name]) for name in sorted(self.given)])
            self.results.append((worth_of(part[1], self.given), names))
        elif word == "each":
            for atom in self.asked[part[2]]:
                self.given[part[1]] = atom
                self.lead(part[3])
            self.given.pop(part[1], None)
        elif word != "when" or passes(part[1], self.given):
            if word == "last":
                self.lasting[part[1]] = atom_of(part[2], self.given)
            for index in BODIES[word]:
                self.lead(part[index])


def atoms_of(environment):
    atoms = []
    for name in environment:
        atoms.extend(environment[name])
    return len(in_order(atoms))


def rows_for(environment, names):
    """The rows that an environment gives these names, of which the least come first; raises NoEnvironment."""
    if not isinstance(environment, dict):
        raise NoEnvironment("")
    for name in names:
        if name not in environment or not is_atom_row(environment[name]):
            raise NoEnvironment(name)
    return {name: list(environment[name]) for name in names}


def rows_for_both(environment, first, second):
    return rows_for(environment, sorted(set(row_names(first) + row_names(second))))


def results_in(expression, rows):
    """All results of an expression that is one, in rows that are right."""
    leading = Leading(rows)
    leading.lead(expression)
    return leading.results


def row_of(expression, environment):
    return led(expression, environment)[0]


def led(expression, environment):
    expression = opened(expression)
    leading = Leading(rows_for(environment, row_names(expression)))
    leading.lead(expression)
    return (leading.results, leading.lasting)


def is_word(word, words):
    return isinstance(word, str) and word in words


def relates(word, first, second, environment):
    if not is_word(word, RELATIONS):
        raise NoRelation(word)
    first, second = opened(first), opened(second)
    rows = rows_for_both(environment, first, second)
    action = RELATED[word]
    return action(results_in(first, rows), results_in(second, rows))


def has(word, first, environment):
    if not is_word(word, QUALITIES):
        raise NoRelation(word)
    row = row_of(first, environment)
    if word == "once":
        return len(set(row)) == len(row)
    return len(row) <= (0 if word == "empty" else 1)


def _same(row, other):
    return row == other


def _begins(row, other):
    return row == other[:len(row)]


def _bag(row, other):
    return _counts(row) == _counts(other)


def _counts(row):
    """How often each result comes."""
    counts = {}
    for result in row:
        counts[result] = counts.get(result, 0) + 1
    return counts


def _set(row, other):
    return set(row) == set(other)


def _within(row, other):
    found = _counts(other)
    return all([result in found for result in row])


RELATED = {"same": _same, "begins": _begins, "bag": _bag, "set": _set, "within": _within}


def struck(environment, atoms):
    if not isinstance(environment, dict):
        raise NoEnvironment("")
    for name in environment:
        if not is_name(name) or not is_atom_row(environment[name]):
            raise NoEnvironment("")
    if not is_row(atoms) or not all([is_atom(atom) for atom in atoms]):
        raise NoAtoms(atoms)
    left = set(atoms)
    found = {}
    for name in environment:
        found[name] = [atom for atom in environment[name] if atom in left]
    return found


def parting(first, second, environment):
    row, other = _both_rows(first, second, environment)
    for result, beside in zip(row, other):
        if result != beside:
            return (result, beside)
    if len(row) == len(other):
        return None
    # The one row goes on where the other one ends, so this result comes more often in it.
    longer = row if len(row) > len(other) else other
    return (longer[min(len(row), len(other))],)


def is_parting(first, second, environment, thing):
    row, other = _both_rows(first, second, environment)
    if not is_row(thing) or not 1 <= len(thing) <= 2 or not all([is_result(item) for item in thing]):
        return False
    chosen = set([frozen(item) for item in thing])
    if len(chosen) != len(thing) or len(chosen) != len(set([result for result in row + other if result in chosen])):
        return False
    return [result for result in row if result in chosen] != [result for result in other if result in chosen]


def _both_rows(first, second, environment):
    first, second = opened(first), opened(second)
    rows = rows_for_both(environment, first, second)
    return (results_in(first, rows), results_in(second, rows))


def is_result(value):
    """Whether a value is such as results are, whatever expression gives them."""
    if not is_row(value) or len(value) != 2 or not is_row(value[0]) or not is_row(value[1]):
        return False
    for pair in value[1]:
        if not is_row(pair) or len(pair) != 2 or not is_name(pair[0]) or not is_atom(pair[1]):
            return False
    return all([is_atom(atom) for atom in value[0]])
