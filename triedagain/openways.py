"""The ways of open expressions, and which atoms names may have, up to an exchange of atoms."""

from triedagain.openparts import all_pass, in_order, passes, spots_with, worth_of
from triedagain.opens import most_names, written


class Way:
    """A give, with what must be so for it to give a result."""

    def __init__(self, spot):
        self.path = spot.path
        self.eaches = spot.eaches
        self.tests = spot.tests
        self.shown = spot.part[1]
        # The names given around it, as they stand in its results.
        self.named = tuple(sorted(spot.names_around()))

    def worth(self, given):
        """The worth of the result for these atoms of the names; None if a test around it does not pass."""
        return worth_of(self.shown, given) if all_pass(self.tests, given) else None


def ways_of(expression):
    return [Way(spot) for spot in spots_with("give", expression)]


def facts_for(eaches, given):
    """What must be so in an environment for names to get these atoms: pairs of a row name and an atom in its row."""
    facts = []
    for name, row, _ in eaches:
        if (row, given[name]) not in facts:
            facts.append((row, given[name]))
    return facts


def rows_of_facts(facts, names):
    """The environment that gives these row names just the atoms of the facts, in their order."""
    return {name: [atom for row, atom in facts if row == name] for name in names}


def fresh_atoms(many, taken):
    """So many atoms that are none of those taken: integers, the least ones from 0 on."""
    found = []
    atom = 0
    while len(found) < many:
        if atom not in taken:
            found.append(atom)
        atom += 1
    return found


def assignments(names, tests, known, fresh):
    """Yields each dict that gives the names atoms so that the tests pass, one of each kind.

    Dicts are of one kind if they become each other by an exchange of atoms that keeps those known. Fresh are as many
    others as there are names: an atom of them stands in a dict only where those ahead of it do.
    """
    waiting = [{}]
    while len(waiting) > 0:
        given = waiting.pop()
        if not _may_pass(tests, given):
            continue
        if len(given) == len(names):
            yield given
            continue
        used = [atom for atom in fresh if atom in list(given.values())]
        for atom in reversed(known + fresh[:len(used) + 1]):
            waiting.append({**given, names[len(given)]: atom})


def _may_pass(tests, given):
    """Whether all those tests pass of which all names have atoms."""
    for test in tests:
        if all([item[0] == "atom" or item[1] in given for item in test[1:]]) and not passes(test, given):
            return False
    return True


def kind_of(given, known):
    """A tuple that two dicts with the same names share exactly if they are of one kind."""
    others = []
    kind = []
    for name in sorted(given):
        atom = given[name]
        if atom in known:
            kind.append(known.index(atom))
            continue
        if atom not in others:
            others.append(atom)
        kind.append(len(known) + others.index(atom))
    return tuple(kind)


def written_in(first, second):
    return in_order(written(first) + written(second))


def kinds_for(first, second):
    """The number of kinds: in how many ways twice the most names can have atoms, up to an exchange."""
    known = len(written_in(first, second))
    # For each number of others used so far the number of ways.
    counts = [1]
    for _ in range(2 * max(most_names(first), most_names(second))):
        longer = [count * (known + used) for used, count in enumerate(counts)] + [0]
        for used, count in enumerate(counts):
            longer[used + 1] += count
        counts = longer
    return sum(counts)
