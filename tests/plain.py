"""The plain meaning told a second time, by generators that ask one another; it shares no code with the package.

Each asking is a generator of ("gave", worth) and of ("out", worth): what an out hands to the call around it goes up
through all that is being asked in this call. Askings are counted; those beyond the limit raise Tired.
"""


class Wrong(Exception):
    pass


class Tired(Exception):
    pass


class Leave(Exception):
    """A back or a fall; the worths are those that the call still gives."""


class Box:
    """A list."""

    def __init__(self, worths):
        self.worths = worths


class Pot:
    """A kept expression."""

    def __init__(self, expression, names):
        self.expression = expression
        self.names = dict(names)
        self.row = None
        self.look = ("", 0)
        self.busy = False


class Proc:
    def __init__(self, name, params, body):
        self.name, self.params, self.body = name, params, body


class Frame:
    def __init__(self, names):
        self.names = dict(names)
        self.scans = []


def words(worth, within=False):
    if worth is None:
        return "nothing"
    if isinstance(worth, str):
        return "'" + worth + "'" if within else worth
    if isinstance(worth, int):
        return str(worth)
    if isinstance(worth, Proc):
        return "to " + worth.name
    if isinstance(worth, Pot):
        return "kept"
    if within:
        return "[..]" if worth.worths else "[]"
    return "[" + ", ".join(words(item, True) for item in worth.worths) + "]"


def told(worth, within=False):
    if worth is None or isinstance(worth, (str, int)):
        return worth
    if isinstance(worth, Proc):
        return ("to", worth.name)
    if isinstance(worth, Pot):
        return ("kept",)
    return ("list", len(worth.worths)) if within else ("list", [told(item, True) for item in worth.worths])


def same(a, b):
    if isinstance(a, (int, str)) and isinstance(b, (int, str)):
        return type(a) is type(b) and a == b
    return a is b


def check(right, reason="kind"):
    if not right:
        raise Wrong(reason)


def is_int(worth):
    return isinstance(worth, int)


def is_text(worth):
    return isinstance(worth, str)


def op(word, a, b):
    if word == ".":
        check(is_text(a) and is_text(b))
        check(len(a + b) <= 60, "great")
        return [a + b]
    check(is_int(a) and is_int(b))
    if word in ("/", "mod") and b == 0:
        return []
    n = {"+": lambda: a + b, "-": lambda: a - b, "*": lambda: a * b, "/": lambda: a // b, "mod": lambda: a % b}[word]()
    check(abs(n) <= 10 ** 9, "great")
    return [n]


def test(word, a, b):
    if word in ("is", "isnt"):
        return same(a, b) == (word == "is")
    check(is_int(a) and is_int(b) or is_text(a) and is_text(b))
    return {"<": a < b, "<=": a <= b, "=": a == b, "<>": a != b}[word]


class Plain:
    """A run; ask() tells what Run tells, and counts the askings that it took."""

    def __init__(self, procedures):
        self.procs = {name: Proc(name, params, body) for name, params, body in procedures}
        self.look = ("", 0)
        self.said = []
        self.depth = 0
        self.count = 0
        self.limit = 0
        self.main = self.called(self.procs["main"], [])
        self.over = None
        self.worth = None

    def ask(self, limit=20000):
        if self.over:
            return self.over
        self.count, self.limit = 0, limit
        try:
            for _, worth in self.main:
                self.worth = worth
                return ("gave", words(worth))
            self.over = ("failed",)
        except Wrong as wrong:
            self.over = ("wrong", wrong.args[0])
        return self.over

    def tick(self):
        self.count += 1
        if self.count > self.limit:
            raise Tired()

    def asked(self, e, frame):
        self.tick()
        for signal in getattr(self, "ask_" + e[0], self.strict)(e, frame):
            yield signal
            if signal[0] == "gave":
                self.tick()

    def once(self, e, frame):
        """Asks an expression and gives it up; returns its result in a list, or an empty one."""
        for signal in self.asked(e, frame):
            if signal[0] == "gave":
                return [signal[1]]
            yield signal
        return []

    # The expressions that are not strict.

    def ask_or(self, e, frame):
        yield from self.asked(e[1], frame)
        yield from self.asked(e[2], frame)

    def ask_and(self, e, frame):
        for signal in self.asked(e[1], frame):
            if signal[0] == "out":
                yield signal
            else:
                yield from self.asked(e[2], frame)

    def ask_first(self, e, frame):
        for worth in (yield from self.once(e[1], frame)):
            yield ("gave", worth)

    def ask_most(self, e, frame):
        left = e[1]
        if left == 0:
            return
        for signal in self.asked(e[2], frame):
            yield signal
            left -= signal[0] == "gave"
            if left == 0:
                return

    def ask_no(self, e, frame):
        if not (yield from self.once(e[1], frame)):
            yield ("gave", None)

    def ask_if(self, e, frame):
        gave = yield from self.once(e[1], frame)
        yield from self.asked(e[2] if gave else e[3], frame)

    def ask_while(self, e, frame):
        while (yield from self.once(e[1], frame)):
            yield from self.once(e[2], frame)

    def ask_every(self, e, frame):
        for signal in self.asked(e[1], frame):
            if signal[0] == "out":
                yield signal
            else:
                yield from self.once(e[2], frame)

    def ask_again(self, e, frame):
        gave = True
        while gave:
            gave = False
            for signal in self.asked(e[1], frame):
                gave = gave or signal[0] == "gave"
                yield signal

    def ask_do(self, e, frame):
        for part in e[1][:-1]:
            yield from self.once(part, frame)
        yield from self.asked(e[1][-1], frame)

    def ask_keep(self, e, frame):
        yield ("gave", Pot(e[1], frame.names))

    def ask_scan(self, e, frame):
        for signal in self.asked(e[1], frame):
            if signal[0] == "out":
                yield signal
                continue
            check(is_text(signal[1]))
            ahead = self.look
            self.look = (signal[1], 0)
            frame.scans.append(ahead)
            for inner in self.asked(e[2], frame):
                if inner[0] == "out":
                    yield inner
                    continue
                frame.scans.pop()
                given, self.look = self.look, ahead
                yield inner
                self.look = given
                frame.scans.append(ahead)
            frame.scans.pop()
            self.look = ahead

    def ask_back(self, e, frame):
        gave = yield from self.once(e[1], frame)
        raise Leave(gave)

    def ask_fall(self, e, frame):
        raise Leave([])
        yield

    def ask_out(self, e, frame):
        for signal in self.asked(e[1], frame):
            if signal[0] == "out":
                yield signal
                continue
            look = self.look
            self.leave_scans(frame)
            yield ("out", signal[1])
            self.look = look

    def leave_scans(self, frame):
        if frame.scans:
            self.look = frame.scans[0]

    def called(self, proc, worths):
        """The results of a call; whoever asks it counts it for the depth while it is being asked."""
        frame = Frame(zip(proc.params, worths))
        try:
            for e in proc.body:
                for signal in self.asked(e, frame):
                    if signal[0] == "gave":
                        break
                    self.depth -= 1
                    yield ("gave", signal[1])
                    self.depth += 1
        except Leave as leave:
            self.leave_scans(frame)
            gave = leave.args[0]
        else:
            gave = []
        for worth in gave:
            self.depth -= 1
            yield ("gave", worth)
            self.depth += 1

    # The strict ones.

    def strict(self, e, frame):
        parts = [part for thing in e[1:] if isinstance(thing, tuple)
                 for part in (thing if thing == () or isinstance(thing[0], tuple) else (thing,))]
        yield from self.filled(e, frame, parts, [])

    def filled(self, e, frame, parts, worths):
        if len(worths) == len(parts):
            yield from self.deed(e, frame, worths)
            return
        for signal in self.asked(parts[len(worths)], frame):
            if signal[0] == "out":
                yield signal
            else:
                yield from self.filled(e, frame, parts, worths + [signal[1]])

    def deed(self, e, frame, worths):
        word = e[0]
        if word in ("to", "items", "find", "reach"):
            row = self.row(word, worths)
        elif word in ("give", "lend", "call", "ask", "move", "tab"):
            row = getattr(self, "do_" + word)(e, frame, worths)
        else:
            row = self.single(e, frame, worths)
        for worth in row:
            yield ("gave", worth)

    def row(self, word, worths):
        a = worths[0]
        if word == "to":
            check(is_int(a) and is_int(worths[1]))
            return iter(range(a, worths[1] + 1))
        if word == "items":
            check(is_text(a) or isinstance(a, Box))
            return iter(a) if is_text(a) else self.items(a)
        check(is_text(a))
        text, place = self.look
        if word == "find":
            return iter([at for at in range(place, len(text) + 1) if text[at:at + len(a)] == a])
        return iter([at for at in range(place, len(text)) if text[at] in list(a)])

    def items(self, box):
        at = 0
        while at < len(box.worths):
            yield box.worths[at]
            at += 1

    def do_give(self, e, frame, worths):
        frame.names[e[1]] = worths[0]
        yield worths[0]

    def do_lend(self, e, frame, worths):
        had = [frame.names[e[1]]] if e[1] in frame.names else []
        frame.names[e[1]] = worths[0]
        yield worths[0]
        if had:
            frame.names[e[1]] = had[0]
        else:
            del frame.names[e[1]]

    def do_call(self, e, frame, worths):
        check(isinstance(worths[0], Proc))
        check(len(worths[0].params) == len(worths) - 1, "count")
        check(self.depth < 11, "deep")
        self.depth += 1
        for signal in self.called(worths[0], worths[1:]):
            yield signal[1]
        self.depth -= 1

    def do_ask(self, e, frame, worths):
        pot = worths[0]
        check(isinstance(pot, Pot))
        check(not pot.busy, "busy")
        check(self.depth < 11, "deep")
        pot.busy = True
        self.depth += 1
        ahead, self.look = self.look, pot.look
        if pot.row is None:
            pot.row = self.asked(pot.expression, Frame(pot.names))
        gave = [signal[1] for signal in [next(pot.row, None)] if signal]
        pot.look, self.look = self.look, ahead
        self.depth -= 1
        pot.busy = False
        yield from gave

    def do_move(self, e, frame, worths):
        text, place = self.look
        check(is_int(worths[0]))
        goal = worths[0] if e[0] == "tab" else place + worths[0]
        if 0 <= goal <= len(text):
            self.look = (text, goal)
            yield text[place:goal] or text[goal:place]
            self.look = (text, place)

    do_tab = do_move

    def single(self, e, frame, worths):
        word = e[0]
        text, place = self.look
        if word in ("nothing", "number", "text"):
            return [e[1] if len(e) > 1 else None]
        if word == "name":
            return [frame.names.get(e[1], self.procs.get(e[1]))]
        if word == "list":
            return [Box(worths)]
        if word == "op":
            return op(e[1], *worths)
        if word == "test":
            return [worths[1]] if test(e[1], *worths) else []
        if word == "say":
            self.said.append(words(worths[0]))
            return [worths[0]]
        if word == "here":
            return [place]
        if word == "many":
            check(is_text(worths[0]))
            goal = place
            while goal < len(text) and text[goal] in list(worths[0]):
                goal += 1
            return [goal] if goal > place else []
        if word == "match":
            check(is_text(worths[0]))
            goal = place + len(worths[0])
            return [goal] if text[place:goal] == worths[0] else []
        if word == "anew":
            check(isinstance(worths[0], Pot))
            return [Pot(worths[0].expression, worths[0].names)]
        return self.on_boxes(word, *worths)

    def on_boxes(self, word, box, at=None, worth=None):
        if word in ("size", "at") and is_text(box):
            row = list(box)
        else:
            check(isinstance(box, Box))
            row = box.worths
        if word == "size":
            return [len(row)]
        if word == "put":
            check(len(row) < 20, "great")
            row.append(at)
            return [box]
        if word == "take":
            return [row.pop()] if row else []
        check(is_int(at))
        if not 0 <= at < len(row):
            return []
        if word == "at":
            return [row[at]]
        row[at] = worth
        return [box]
