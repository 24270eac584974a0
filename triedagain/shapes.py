"""The table of expressions: what stands in each of them, and which are their parts."""

WORDS = (
    "mod", "nothing", "first", "no", "if", "most", "again", "to", "items", "every", "while", "do",
    "call", "back", "out", "fall", "keep", "ask", "anew", "scan", "move", "tab", "find", "reach",
    "many", "match", "here", "put", "take", "size", "at", "place", "say", "is", "isnt", "list",
)
OP_WORDS = ("+", "-", "*", "/", "mod", ".")
TEST_WORDS = ("<", "<=", "=", "<>", "is", "isnt")
# Words that are a whole text.
ALONE = ("nothing", "fall", "here")
# Words of expressions that may not stand in a keep.
LEAVING = ("back", "out", "fall")
DEPTH = 8

# What stands behind the word of each expression, field by field: "part" is one expression, a key of ROW_SIZES a
# row of them, and all else is told by field_fits.
SHAPES = {
    "nothing": (), "number": ("number",), "text": ("text",), "name": ("name",),
    "list": ("items",),
    "op": ("op", "part", "part"),
    "test": ("test", "part", "part"),
    "or": ("part", "part"), "and": ("part", "part"), "first": ("part",), "no": ("part",),
    "if": ("part", "part", "part"),
    "most": ("most", "part"),
    "again": ("part",), "to": ("part", "part"), "items": ("part",),
    "give": ("name", "part"), "lend": ("name", "part"),
    "every": ("part", "part"), "while": ("part", "part"),
    "do": ("steps",),
    "call": ("part", "handed"),
    "back": ("part",), "out": ("part",), "fall": (),
    "keep": ("part",), "ask": ("part",), "anew": ("part",),
    "scan": ("part", "part"), "move": ("part",), "tab": ("part",), "find": ("part",),
    "reach": ("part",), "many": ("part",), "match": ("part",), "here": (),
    "put": ("part", "part"), "take": ("part",), "size": ("part",), "at": ("part", "part"),
    "place": ("part", "part", "part"), "say": ("part",),
}
# The least and the greatest number of parts in each kind of row.
ROW_SIZES = {"items": (0, 4), "steps": (1, 6), "handed": (0, 3)}

LONGEST_NAME = 8
LONGEST_TEXT = 20
GREATEST_NUMBER = 999
GREATEST_MOST = 20


def is_row(value):
    return isinstance(value, (list, tuple))


def is_integer(value):
    """Flags count as integers for Python, but nowhere here."""
    return isinstance(value, int) and not isinstance(value, bool)


def is_letter(sign):
    return "a" <= sign <= "z"


def is_text_sign(sign):
    """Whether this one sign may stand in a text; 37 is the percent sign, which is never written in this package."""
    return " " <= sign <= "~" and sign != "'" and ord(sign) != 37


def is_name(value):
    if not isinstance(value, str) or not 1 <= len(value) <= LONGEST_NAME:
        return False
    return value not in WORDS and all([is_letter(sign) for sign in value])


def is_text(value):
    if not isinstance(value, str) or len(value) > LONGEST_TEXT:
        return False
    return all([is_text_sign(sign) for sign in value])


def field_fits(kind, thing):
    """Whether a thing may stand in a field that holds no expressions."""
    if kind == "number":
        return is_integer(thing) and -GREATEST_NUMBER <= thing <= GREATEST_NUMBER
    if kind == "most":
        return is_integer(thing) and 0 <= thing <= GREATEST_MOST
    if kind == "text":
        return is_text(thing)
    if kind == "name":
        return is_name(thing)
    words = OP_WORDS if kind == "op" else TEST_WORDS
    return isinstance(thing, str) and thing in words


def row_fits(kind, thing):
    """Whether a thing is a row of as many items as this kind of row has, whatever these are."""
    least, greatest = ROW_SIZES[kind]
    return is_row(thing) and least <= len(thing) <= greatest


def has_shape(value):
    """Whether a value is a row that begins with the word of an expression, with as many items as this one has."""
    if not is_row(value) or len(value) == 0:
        return False
    word = value[0]
    return isinstance(word, str) and word in SHAPES and len(value) == len(SHAPES[word]) + 1


def fits(value, depth=DEPTH, kept=False):
    """Whether a value is an expression of at most this depth, where kept tells whether it stands in a keep."""
    # The depth is asked first: so a value of any depth is gone into no deeper than an expression is.
    if depth == 0 or not has_shape(value):
        return False
    word = value[0]
    if kept and word in LEAVING:
        return False
    kept = kept or word == "keep"
    for kind, thing in zip(SHAPES[word], value[1:]):
        if kind == "part":
            right = fits(thing, depth - 1, kept)
        elif kind in ROW_SIZES:
            right = row_fits(kind, thing) and all([fits(part, depth - 1, kept) for part in thing])
        else:
            right = field_fits(kind, thing)
        if not right:
            return False
    return True


def frozen(value):
    """A value with a tuple for each row in it: a copy that nobody can change."""
    if is_row(value):
        return tuple([frozen(item) for item in value])
    return value


def parts_of(expression):
    """A new list of the parts of an expression, in their order."""
    parts = []
    for kind, thing in zip(SHAPES[expression[0]], expression[1:]):
        if kind == "part":
            parts.append(thing)
        elif kind in ROW_SIZES:
            parts.extend(thing)
    return parts


def with_parts(expression, parts):
    """The expression with other parts, as many as it has."""
    built = [expression[0]]
    used = 0
    for kind, thing in zip(SHAPES[expression[0]], expression[1:]):
        if kind == "part":
            built.append(parts[used])
            used += 1
        elif kind in ROW_SIZES:
            built.append(tuple(parts[used:used + len(thing)]))
            used += len(thing)
        else:
            built.append(thing)
    return tuple(built)


def size_of(expression):
    """The number of expressions in an expression, itself too."""
    return 1 + sum([size_of(part) for part in parts_of(expression)])
