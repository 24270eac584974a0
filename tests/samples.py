"""An expression of each kind, with its text; and a few programs."""

A, B, C = ("name", "a"), ("number", -7), ("text", "so it is")

SAMPLES = [
    (("nothing",), "nothing"),
    (("number", 0), "0"), (("number", 45), "45"), (("number", 999), "999"), (("number", -999), "-999"),
    (("text", ""), "''"), (("text", "so it is"), "'so it is'"), (("text", "[1, (2 + x"), "'[1, (2 + x'"),
    (("name", "x"), "x"), (("name", "lista"), "lista"), (("name", "isn"), "isn"), (("name", "or"), "or"),
    (("list", ()), "[]"), (("list", (A,)), "[a]"), (("list", (A, B, C)), "[a, -7, 'so it is']"),
    (("op", "+", A, B), "(a + -7)"), (("op", "-", B, A), "(-7 - a)"), (("op", "*", A, C), "(a * 'so it is')"),
    (("op", "/", A, B), "(a / -7)"), (("op", "mod", A, B), "(a mod -7)"), (("op", ".", C, A), "('so it is' . a)"),
    (("test", "<", A, B), "(a < -7)"), (("test", "<=", A, B), "(a <= -7)"), (("test", "=", A, B), "(a = -7)"),
    (("test", "<>", A, B), "(a <> -7)"), (("test", "is", B, A), "(-7 is a)"), (("test", "isnt", A, B), "(a isnt -7)"),
    (("or", A, B), "(a | -7)"), (("and", B, A), "(-7 & a)"), (("first", A), "first(a)"), (("no", B), "no(-7)"),
    (("if", A, B, C), "if(a, -7, 'so it is')"),
    (("most", 0, A), "most(0, a)"), (("most", 20, B), "most(20, -7)"),
    (("again", A), "again(a)"), (("to", A, B), "(a to -7)"), (("to", B, A), "(-7 to a)"), (("items", A), "items(a)"),
    (("give", "x", B), "(x := -7)"), (("lend", "x", B), "(x <- -7)"),
    (("every", A, B), "every(a, -7)"), (("while", A, B), "while(a, -7)"),
    (("do", (A,)), "do(a)"), (("do", (A, B, C)), "do(a, -7, 'so it is')"),
    (("call", A, ()), "call(a)"), (("call", A, (B, C)), "call(a, -7, 'so it is')"),
    (("back", A), "back(a)"), (("out", B), "out(-7)"), (("fall",), "fall"),
    (("keep", A), "keep(a)"), (("ask", A), "ask(a)"), (("anew", A), "anew(a)"),
    (("scan", C, A), "scan('so it is', a)"), (("move", B), "move(-7)"), (("tab", A), "tab(a)"),
    (("find", A), "find(a)"), (("reach", C), "reach('so it is')"), (("many", A), "many(a)"),
    (("match", A), "match(a)"), (("here",), "here"),
    (("put", A, B), "put(a, -7)"), (("take", A), "take(a)"), (("size", A), "size(a)"), (("at", A, B), "at(a, -7)"),
    (("place", A, B, C), "place(a, -7, 'so it is')"), (("say", C), "say('so it is')"),
    (("first", ("no", ("list", (("do", (A,)), ("list", ()))))), "first(no([do(a), []]))"),
    (("op", "-", ("op", "-", B, A), ("give", "y", ("or", A, B))), "((-7 - a) - (y := (a | -7)))"),
]

PROGRAMS = [
    ([("main", (), ())], "to main()"),
    ([("main", (), (("out", ("to", ("number", 1), ("number", 3))), ("fall",)))],
     "to main()\n  out((1 to 3))\n  fall"),
    ([("main", (), ()), ("f", ("a",), (A,)), ("gg", ("a", "b", "main"), (("list", ()), C))],
     "to main()\nto f(a)\n  a\nto gg(a, b, main)\n  []\n  'so it is'"),
]


def listed(value):
    """The value with a list for each row."""
    if isinstance(value, (list, tuple)):
        return [listed(item) for item in value]
    return value


def mixed(value, first=True):
    """The value with lists and tuples by turns, from outside inward."""
    if isinstance(value, (list, tuple)):
        items = [mixed(item, not first) for item in value]
        return items if first else tuple(items)
    return value


def wrapped(expression, times, word="first"):
    for _ in range(times):
        expression = (word, expression)
    return expression


def is_frozen(value):
    """Whether there is no list in a value."""
    if isinstance(value, tuple):
        return all(is_frozen(item) for item in value)
    return not isinstance(value, list)


def raised(case, error, work, *given, **named):
    """The error of just this class that a call raises."""
    with case.assertRaises(error) as held:
        work(*given, **named)
    case.assertIs(error, held.exception.__class__)
    return held.exception
