"""The errors of Triedagain. Each one keeps what it is given under the names of its parameters."""

# No argument for which an error is named is nested deeper; what is deeper is kept as it is, so that no copy is
# too deep for Python.
DEEPEST = 20


def kept(value, levels=DEEPEST):
    """A copy of any value, so that nothing that the caller does with it later changes the error."""
    if levels == 0:
        return value
    if isinstance(value, list):
        return [kept(item, levels - 1) for item in value]
    if isinstance(value, tuple):
        return tuple([kept(item, levels - 1) for item in value])
    if isinstance(value, dict):
        return {key: kept(value[key], levels - 1) for key in value}
    return value


class TriedError(ValueError):
    """Whatever goes wrong in Triedagain; all other errors stand directly under this one."""


class NoProgram(TriedError):
    """These procedures are no program: the index of the procedure, and of the expression in its body."""

    def __init__(self, index, part):
        self.index = index
        self.part = part


class NoName(TriedError):
    """Nothing has this name."""

    def __init__(self, name):
        self.name = kept(name)


class NoExpression(TriedError):
    """A value is no expression."""


class NoPlace(TriedError):
    """This path leads to no part."""

    def __init__(self, path):
        self.path = kept(path)


class NoText(TriedError):
    """A text is not right: the line and the column of the first sign that cannot stand there."""

    def __init__(self, line, column):
        self.line = line
        self.column = column


class NoResult(TriedError):
    """The last thing that a run told is no result."""


class BadLimit(TriedError):
    """A limit is no integer of those that are let."""


class TooMany(TriedError):
    """More steps are needed than this limit lets."""

    def __init__(self, limit):
        self.limit = limit


class NoCode(TriedError):
    """These are no entries and rows of a code: the index of the first wrong one."""

    def __init__(self, index):
        self.index = index


class Over(TriedError):
    """The run is over."""


class BadPlace(TriedError):
    """This is no place of an instruction."""

    def __init__(self, spot):
        self.spot = kept(spot)


class NothingDone(TriedError):
    """There is no step to take back."""


class NoOpen(TriedError):
    """A thing is no open expression: the place of its fault."""

    def __init__(self, spot):
        self.spot = kept(spot)


class NoEnvironment(TriedError):
    """A thing is no environment: the row name that it gives no row."""

    def __init__(self, name):
        self.name = kept(name)


class NoRelation(TriedError):
    """This word is none of a relation or a quality."""

    def __init__(self, word):
        self.word = kept(word)


class NoAtoms(TriedError):
    """This is no row of atoms."""

    def __init__(self, atoms):
        self.atoms = kept(atoms)


class NoTest(TriedError):
    """This is no test for the place."""

    def __init__(self, test):
        self.test = kept(test)


class NoStep(TriedError):
    """This is no step for the expression."""

    def __init__(self, wrong):
        self.wrong = kept(wrong)


class NoChain(TriedError):
    """This is no chain: the index of the first step that cannot be done."""

    def __init__(self, index):
        self.index = index


class TooWide(TriedError):
    """There are too many kinds."""


class NoBridge(TriedError):
    """An open expression has no bridge."""
