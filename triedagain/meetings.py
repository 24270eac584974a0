"""In which order the ways of an open expression give their results, hanging on the order of atoms in the rows.

An ORDER is -1 (ahead) or 1 (behind), or a tuple (row, atom, other): ahead exactly if the atom stands ahead of the
other one in the row.
"""

AHEAD = -1
BEHIND = 1


def meetings_of(ways):
    """For each way and each other one which eaches around they share, and in which order the gives stand."""
    return [[_meeting(way, other) for other in ways] for way in ways]


def _meeting(way, other):
    shared = 0
    while shared < min(len(way.path), len(other.path)) and way.path[shared] == other.path[shared]:
        shared += 1
    eaches = tuple([(name, row) for name, row, length in way.eaches if length < shared])
    if shared == len(way.path):
        # It is the same way: then their results are unlike by the atoms of these names.
        return (eaches, 0)
    return (eaches, AHEAD if way.path[shared] < other.path[shared] else BEHIND)


def order_told(meeting, given, others):
    """The order of the results of two ways, where names have the given atoms in the one and others in the other."""
    eaches, order = meeting
    for name, row in eaches:
        if given[name] != others[name]:
            return (row, given[name], others[name])
    return order


def demands_for(order, other):
    """What makes two orders unlike: a list of (row, atom, atom behind it); None if they are never unlike."""
    if order == other:
        return None
    if not isinstance(order, tuple) and not isinstance(other, tuple):
        return []
    if not isinstance(order, tuple):
        return [_turned(other) if order == AHEAD else other]
    if not isinstance(other, tuple):
        return [_turned(order) if other == AHEAD else order]
    # Two orders of the same atoms in the same row, the other way round, demand the same twice.
    return [order, _turned(other)]


def _turned(order):
    row, atom, other = order
    return (row, other, atom)


def sorted_facts(facts, demands):
    """The facts in an order in which all demands are met; no two of them contradict each other."""
    left = list(facts)
    found = []
    while len(left) > 0:
        for row, atom in left:
            waits = [ahead for where, ahead, behind in demands if where == row and behind == atom]
            if all([(row, ahead) in found for ahead in waits]):
                chosen = (row, atom)
                break
        found.append(chosen)
        left.remove(chosen)
    return found
