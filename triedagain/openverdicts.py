"""What holds for open expressions in every environment, and environments in which it does not hold."""

from triedagain.clashes import Search
from triedagain.errors import NoEnvironment, NoOpen, NoRelation, TooWide
from triedagain.openlead import QUALITIES, RELATIONS, has, is_word, relates
from triedagain.opens import most_names, opened, row_names
from triedagain.openways import fresh_atoms, kinds_for, rows_of_facts, written_in

MOST_KINDS = 2000
NONE = ("none",)


def always(word, first, second):
    return against(word, first, second) is None


def always_has(word, first):
    return against_has(word, first) is None


def enough(word, first, second):
    if not is_word(word, RELATIONS + QUALITIES):
        raise NoRelation(word)
    first = opened(first)
    if word in RELATIONS:
        many = max(most_names(first), most_names(opened(second)))
    else:
        if second is not None:
            raise NoOpen(())
        many = most_names(first)
    return 2 * many if word in ("same", "begins", "single") else many


def kinds(first, second):
    first, second = opened(first), opened(second)
    return kinds_for(first, second)


def check_wide(first, second):
    if kinds_for(first, second) > MOST_KINDS:
        raise TooWide()


def against(word, first, second):
    if not is_word(word, RELATIONS):
        raise NoRelation(word)
    first, second = opened(first), opened(second)
    check_wide(first, second)
    return _fewest(word, first, second)


def against_has(word, first):
    if not is_word(word, QUALITIES):
        raise NoRelation(word)
    first = opened(first)
    check_wide(first, first)
    return _fewest(word, first, NONE)


def _fewest(word, first, second):
    """An environment with the fewest atoms in which it is not so, or None."""
    known = written_in(first, second)
    fresh = fresh_atoms(2 * max(most_names(first), most_names(second)), known)
    facts = Search(word, first, second, known, fresh).fewest()
    return None if facts is None else rows_of_facts(facts, _names_of_both(first, second))


def _names_of_both(first, second):
    return sorted(set(row_names(first) + row_names(second)))


def is_against(word, first, second, thing):
    try:
        return not relates(word, first, second, thing)
    except NoEnvironment:
        return False


def is_against_has(word, first, thing):
    try:
        return not has(word, first, thing)
    except NoEnvironment:
        return False


def test_set(first, second):
    first, second = opened(first), opened(second)
    check_wide(first, second)
    found = [_fewest(word, first, second) for word in RELATIONS]
    for expression in (first, second):
        found.extend([_fewest(word, expression, NONE) for word in QUALITIES])
    names = _names_of_both(first, second)
    # An environment for one expression is one for both with rows without atoms.
    return [{name: rows.get(name, []) for name in names} for rows in found if rows is not None]
