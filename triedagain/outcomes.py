"""Which ways of two open expressions give a result, hanging on which atoms stand in the rows.

A result names the atoms of all names given around the ways that give it. So each way gives it once at most: if its
tests pass for these atoms, and if each of them stands in the row that is asked for it. Which of these FACTS there are
is told by a number with a bit for each one, a pattern.
"""

from triedagain.openparts import in_order
from triedagain.openways import assignments, facts_for, ways_of


class Outcome:
    """A result, and the ways of the first and the second expression that can give it, by their numbers."""

    def __init__(self, given, worth):
        self.given = given
        self.shown = worth
        self.atoms = in_order(list(given.values()))
        self.facts = []
        # For each of the ways its number and the pattern of the facts that it needs.
        self.firsts = []
        self.seconds = []
        # What patterns_with worked out.
        self.stood = {}

    def add_way(self, is_first, number, way):
        needed = 0
        for fact in facts_for(way.eaches, self.given):
            if fact not in self.facts:
                self.facts.append(fact)
            needed |= 1 << self.facts.index(fact)
        if is_first:
            self.firsts.append((number, needed))
        else:
            self.seconds.append((number, needed))

    def patterns(self):
        """The patterns of just what some of the ways need, for all choices of these."""
        found = {0: True}
        for _, needed in self.firsts + self.seconds:
            for pattern in list(found):
                found[pattern | needed] = True
        return list(found)

    def counts(self, pattern):
        """How often the result comes in both rows."""
        return (len(_giving(self.firsts, pattern)), len(_giving(self.seconds, pattern)))

    def pairs(self, pattern):
        """The ways of both expressions that give it, side by side, with None behind the last one of a row."""
        firsts = _giving(self.firsts, pattern)
        seconds = _giving(self.seconds, pattern)
        many = max(len(firsts), len(seconds))
        firsts.extend([None] * (many - len(firsts)))
        seconds.extend([None] * (many - len(seconds)))
        return list(zip(firsts, seconds))

    def all_pairs(self):
        """All that stand side by side with some pattern."""
        found = {}
        for pattern in self.patterns():
            for pair in self.pairs(pattern):
                found[pair] = True
        return tuple(found)

    def patterns_with(self, pair):
        """All patterns, also of more than what ways need, with which this pair stands side by side."""
        if pair not in self.stood:
            patterns = range(1 << len(self.facts))
            self.stood[pair] = [pattern for pattern in patterns if pair in self.pairs(pattern)]
        return self.stood[pair]

    def exchanged(self, exchange):
        """The same with other atoms in the place of those that the exchange tells."""
        given = {name: exchange.get(self.given[name], self.given[name]) for name in self.given}
        other = Outcome(given, tuple([exchange.get(atom, atom) for atom in self.shown]))
        other.facts = [(row, exchange.get(atom, atom)) for row, atom in self.facts]
        other.firsts = self.firsts
        other.seconds = self.seconds
        # The patterns tell the facts by their places, so they are the same.
        other.stood = self.stood
        return other

    def is_like(self, other):
        """Whether both are the same result."""
        return self.shown == other.shown and self.given == other.given

    def facts_of(self, pattern):
        return [fact for index, fact in enumerate(self.facts) if pattern >> index & 1 == 1]


def _giving(numbered, pattern):
    """The numbers of those ways that need nothing beyond the pattern."""
    return [number for number, needed in numbered if needed & pattern == needed]


def outcomes_of(first, second, known, fresh):
    """All results that one of the expressions can give, one of each kind."""
    found = {}
    for is_first, expression in ((True, first), (False, second)):
        for number, way in enumerate(ways_of(expression)):
            for given in assignments(way.named, (), known, fresh):
                worth = way.worth(given)
                if worth is None:
                    continue
                key = (worth, tuple([(name, given[name]) for name in way.named]))
                if key not in found:
                    found[key] = Outcome(given, worth)
                outcome = found[key]
                outcome.add_way(is_first, number, way)
    return list(found.values())
