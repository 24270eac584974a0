"""Looks for an environment with the fewest atoms in which a relation or a quality does not hold.

It is enough to look at results one by one, and two by two: rows are the same, or one begins the other, exactly if
this is so for each two results when all others are left out; and atoms that these results do not name can be struck
out of all rows.
"""

from triedagain.meetings import AHEAD, BEHIND, demands_for, meetings_of, order_told, sorted_facts
from triedagain.openparts import in_order
from triedagain.openways import ways_of
from triedagain.outcomes import outcomes_of

# Words for which two unlike results are looked at, too.
OF_TWO = ("same", "begins", "single")


def is_broken(word, many, other):
    """Whether a result that comes so often in the first row, and so often in the second, is against this word."""
    if word in ("same", "bag"):
        return many != other
    if word == "begins":
        return many > other
    if word == "set":
        return (many > 0) != (other > 0)
    if word == "within":
        return many > 0 and other == 0
    return many > (0 if word == "empty" else 1)


class Search:
    """A search for what is against a word.

    Known are the atoms that are written in the expressions, fresh are as many others as two results can name.
    """

    def __init__(self, word, first, second, known, fresh):
        self.word = word
        self.fresh = fresh
        self.outcomes = outcomes_of(first, second, known, fresh)
        self.meetings = meetings_of(ways_of(first))
        self.others = meetings_of(ways_of(second))
        # The couples of outcomes that may be against the word, with what is suspect in them.
        self.couples = []
        # The rows of pairs of outcomes with their numbers, and the number for each outcome; many share one.
        self.rows_of_pairs = {}
        self.numbers = {}
        # What is suspect in all couples with these numbers.
        self.suspects = {}

    def fewest(self):
        """The facts of an environment with the fewest atoms, in an order for its rows; None if there is none."""
        for many in range(len(self.fresh) + 1):
            facts = self._found_in_one(many)
            if facts is None and self.word in OF_TWO:
                self._add_couples(many)
                facts = self._found_in_two(many)
            if facts is not None:
                return facts
        return None

    def _found_in_one(self, many):
        """The facts by which a single result with so many atoms is against the word."""
        for outcome in self.outcomes:
            if len(outcome.atoms) == many:
                for pattern in outcome.patterns():
                    count, other = outcome.counts(pattern)
                    if is_broken(self.word, count, other):
                        return outcome.facts_of(pattern)
        return None

    def _add_couples(self, many):
        """Adds the couples of which the one with more atoms has so many; all outcomes before were in order."""
        for number, outcome in enumerate(self.outcomes):
            for other in self.outcomes[number:]:
                if max(len(outcome.atoms), len(other.atoms)) == many:
                    suspects = self._suspects_in(outcome, other)
                    if len(suspects) > 0:
                        self.couples.append((outcome, other, suspects))

    def _suspects_in(self, outcome, other):
        """The pairs of the one beside pairs of the other whose meetings in both expressions are not the same."""
        key = (self._number_of(outcome), self._number_of(other))
        if key not in self.suspects:
            found = []
            for pair in outcome.all_pairs():
                for beside in other.all_pairs():
                    meeting = _meeting_in(self.meetings, pair[0], beside[0])
                    second = _meeting_in(self.others, pair[1], beside[1])
                    if meeting is not None and meeting != second:
                        found.append((pair, beside, meeting, second))
            self.suspects[key] = found
        return self.suspects[key]

    def _number_of(self, outcome):
        if outcome not in self.numbers:
            pairs = outcome.all_pairs()
            self.numbers[outcome] = self.rows_of_pairs.setdefault(pairs, len(self.rows_of_pairs))
        return self.numbers[outcome]

    def _found_in_two(self, many):
        """The facts by which two unlike results with so many atoms together are against the word."""
        for outcome, other, suspects in self.couples:
            if len(outcome.atoms) + len(other.atoms) < many:
                continue
            for exchange in exchanges(outcome.atoms, other.atoms, self.fresh):
                exchanged = other.exchanged(exchange)
                if outcome.is_like(exchanged) or len(in_order(outcome.atoms + exchanged.atoms)) != many:
                    continue
                for pair, beside, meeting, second in suspects:
                    demands = self._demands(outcome, exchanged, meeting, second)
                    facts = None if demands is None else shared_facts(outcome, exchanged, pair, beside)
                    if facts is not None:
                        return sorted_facts(facts, demands)
        return None

    def _demands(self, outcome, other, meeting, second):
        """Which order of atoms sets two results against the word; None if there is none."""
        if self.word == "single":
            return []
        order = order_told(meeting, outcome.given, other.given)
        return demands_for(order, order_told(second, outcome.given, other.given))


def _meeting_in(meetings, way, other):
    """The meeting of two ways; where there is no way, it is behind all that there are."""
    if way is None:
        return None if other is None else ((), BEHIND)
    return ((), AHEAD) if other is None else meetings[way][other]


def exchanges(atoms, others, fresh):
    """All dicts that turn the fresh ones of the others into fresh ones, be they among the atoms or not."""
    used = len([atom for atom in fresh if atom in atoms])
    found = [{}]
    for atom in others:
        if atom not in fresh:
            continue
        longer = []
        for exchange in found:
            taken = list(exchange.values())
            beyond = used + len([goal for goal in taken if goal not in fresh[:used]])
            for goal in fresh[:used] + [fresh[beyond]]:
                if goal not in taken:
                    longer.append({**exchange, atom: goal})
        found = longer
    return found


def shared_facts(outcome, other, pair, beside):
    """The facts with which both pairs stand side by side; None if there are none such."""
    shared = [(index, other.facts.index(fact)) for index, fact in enumerate(outcome.facts) if fact in other.facts]
    found = {}
    for pattern in outcome.patterns_with(pair):
        found.setdefault(tuple([pattern >> index & 1 for index, _ in shared]), pattern)
    for pattern in other.patterns_with(beside):
        key = tuple([pattern >> index & 1 for _, index in shared])
        if key in found:
            facts = outcome.facts_of(found[key])
            return facts + [fact for fact in other.facts_of(pattern) if fact not in facts]
    return None
