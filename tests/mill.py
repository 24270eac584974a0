"""The machine told a second time, as plainly as it can be; it counts instructions and the marks that these put on.

It takes the deeds from tests.plain, so that it shares no code with the package.
"""

from tests.plain import Box, Plain, Pot, Proc, Wrong, check, is_int, is_text, op, test, words


class Slow(Exception):
    pass


class Count:
    def __init__(self):
        self.n = 0


class Yard:
    """A frame."""

    def __init__(self, names, way, floor):
        self.names, self.way, self.floor = dict(names), way, floor


class Gave(Exception):
    """A result of main, or of a kept one."""


class Failed(Exception):
    """There is no mark."""


class Lane:
    """Frame, place, stand, marks and look of the run or of a kept one."""

    def __init__(self, names, place):
        self.frame, self.place = Yard(names, None, 0), place
        self.held, self.fences, self.scans, self.marks, self.look = [], [], [], [], ("", 0)

    def state(self, place=None):
        return (self.frame, self.place if place is None else place,
                [list(self.held), list(self.fences), list(self.scans)])

    def become(self, state):
        self.frame, self.place = state[:2]
        self.held, self.fences, self.scans = [list(row) for row in state[2]]

    def frames(self):
        found, frame = 1, self.frame
        while frame.way:
            found, frame = found + 1, frame.way[0]
        return found


class Mill:
    def __init__(self, code):
        self.rows, self.said, self.marked, self.count, self.limit = code.rows(), [], 0, 0, 0
        program = code.program()
        self.procs = {name: Proc(*program.procedure(name)) for name in program.names()}
        self.entries = {name: code.entry(name) for name in program.names()}
        self.main = Lane({}, self.entries["main"])
        self.lanes = [self.main]
        self.over, self.begun, self.worth = None, False, None
        # Lends out the deeds that need the look and what was said.
        self.plain = Plain([("main", (), ())])
        self.full = False

    def ask(self, limit=100000):
        self.count, self.marked, self.limit = 0, 0, limit
        if self.over:
            return self.over
        try:
            self.go_on(self.main, self.begun)
        except Gave as gave:
            self.begun = True
            self.worth = gave.args[0]
            return ("gave", words(self.worth))
        except Failed:
            self.over = ("failed",)
        except Wrong as wrong:
            self.over = ("wrong", wrong.args[0])
        return self.over

    def go_on(self, lane, begun):
        """Runs a lane until it gives or fails."""
        if begun:
            self.back_off(lane)
        while True:
            check(lane.place < len(self.rows), "code")
            if self.count == self.limit:
                raise Slow()
            self.count += 1
            row = self.rows[lane.place]
            lane.place += 1
            try:
                getattr(self, "do_" + row[0])(lane, *row[1:])
            except Fails:
                self.back_off(lane)

    def back_off(self, lane):
        while True:
            if not lane.marks:
                raise Failed()
            mark = lane.marks.pop()
            if mark[0] == "unlend":
                mark[1].names.pop(mark[2])
                mark[1].names.update(mark[3])
            elif mark[0] == "look":
                lane.look = mark[1]
            elif mark[0] == "retry":
                lane.become(mark[1])
                return
            else:
                for worth in mark[2]:
                    lane.marks.append(mark)
                    lane.become(mark[1])
                    lane.held.append(worth)
                    return

    def mark(self, lane, *mark):
        lane.marks.append(mark)
        self.marked += 1

    def put(self, row, item):
        if len(row) == 60:
            self.full = True
        check(len(row) < 60, "code")
        row.append(item)

    def take(self, lane, many=1):
        check(len(lane.held) >= many, "code")
        row = lane.held[len(lane.held) - many:]
        check(not any(isinstance(item, Count) for item in row), "code")
        del lane.held[len(lane.held) - many:]
        return row

    def count_at(self, lane, place):
        check(len(lane.held) >= place and isinstance(lane.held[-place], Count), "code")
        return lane.held.pop(-place)

    def do_worth(self, lane, worth):
        self.put(lane.held, worth)

    def do_name(self, lane, name):
        self.put(lane.held, lane.frame.names.get(name, self.procs.get(name)))

    def do_give(self, lane, name):
        worth, = self.take(lane)
        lane.held.append(worth)
        lane.frame.names[name] = worth

    def do_lend(self, lane, name):
        names = lane.frame.names
        had = {name: names[name]} if name in names else {}
        self.do_give(lane, name)
        self.mark(lane, "unlend", lane.frame, name, had)

    def do_drop(self, lane):
        check(lane.held, "code")
        lane.held.pop()

    def do_deed(self, lane, word):
        many = {"here": 0, "place": 3}.get(word, 1 if word in "take size say move tab many match anew".split() else 2)
        worths = self.take(lane, many)
        if many == 0:
            self.put(lane.held, lane.look[1])
            return
        if word in "+ - * / mod .".split():
            row = op(word, *worths)
        elif word in "< <= = <> is isnt".split():
            row = worths[1:] if test(word, *worths) else []
        elif word in ("move", "tab"):
            row = self.moved(lane, word, worths[0])
        else:
            self.plain.look, self.plain.said = lane.look, self.said
            row = self.plain.single((word,), None, worths)
        if not row:
            raise Fails()
        lane.held.append(row[0])

    def moved(self, lane, word, by):
        check(is_int(by))
        text, place = lane.look
        goal = by if word == "tab" else place + by
        if not 0 <= goal <= len(text):
            return []
        self.mark(lane, "look", lane.look)
        lane.look = (text, goal)
        return [text[min(place, goal):max(place, goal)]]

    def do_list(self, lane, many):
        self.put(lane.held, Box(self.take(lane, many)))

    def do_rows(self, lane, word):
        worths = self.take(lane, 2 if word == "to" else 1)
        self.plain.look = lane.look
        row = self.plain.row(word, worths)
        self.mark(lane, "more", lane.state(), row)
        raise Fails()

    def do_jump(self, lane, place):
        lane.place = place

    def do_retry(self, lane, place):
        self.mark(lane, "retry", lane.state(place))

    def do_fail(self, lane):
        raise Fails()

    def do_open(self, lane):
        self.put(lane.fences, len(lane.marks))

    def do_shut(self, lane):
        check(lane.fences, "code")
        del lane.marks[lane.fences.pop():]

    def do_counter(self, lane):
        self.put(lane.held, Count())

    def do_tick(self, lane, many):
        check(lane.fences, "code")
        count = self.count_at(lane, 2)
        fence = lane.fences.pop()
        count.n += 1
        if count.n == many:
            del lane.marks[fence:]

    def do_mark(self, lane):
        self.count_at(lane, 2).n = 1

    def do_any(self, lane, place):
        if self.count_at(lane, 1).n != 1:
            raise Fails()
        lane.place = place

    def depth(self):
        return sum(lane.frames() for lane in self.lanes)

    def do_call(self, lane, many):
        proc, *worths = self.take(lane, many + 1)
        check(isinstance(proc, Proc))
        check(len(proc.params) == many, "count")
        check(self.depth() < 12, "deep")
        lane.frame = Yard(zip(proc.params, worths), lane.state(), len(lane.marks))
        lane.place, lane.held, lane.fences, lane.scans = self.entries[proc.name], [], [], []

    def leave(self, lane):
        check(lane.frame.way or len(self.lanes) == 1, "code")

    def first_look(self, lane):
        lane.look = (lane.scans + [lane.look])[0]

    def result(self, lane, worth):
        if lane.frame.way is None:
            raise Gave(worth)
        lane.become(lane.frame.way)
        lane.held.append(worth)

    def do_back(self, lane):
        worth, = self.take(lane)
        self.leave(lane)
        del lane.marks[lane.frame.floor:]
        self.first_look(lane)
        self.result(lane, worth)

    def do_out(self, lane):
        worth, = self.take(lane)
        self.leave(lane)
        self.mark(lane, "retry", lane.state())
        self.mark(lane, "look", lane.look)
        self.first_look(lane)
        self.result(lane, worth)

    def do_fall(self, lane):
        self.leave(lane)
        del lane.marks[lane.frame.floor:]
        self.first_look(lane)
        raise Fails()

    def do_keep(self, lane, place):
        pot = Pot(lane.place, lane.frame.names)
        self.put(lane.held, pot)
        lane.place = place

    def do_yield(self, lane):
        worth, = self.take(lane)
        check(len(self.lanes) > 1, "code")
        raise Gave(worth)

    def do_ask(self, lane):
        pot, = self.take(lane)
        check(isinstance(pot, Pot))
        check(not pot.busy, "busy")
        check(self.depth() < 12, "deep")
        begun = pot.row is not None
        if not begun:
            pot.row = Lane(pot.names, pot.expression)
        pot.busy = True
        self.lanes.append(pot.row)
        try:
            self.go_on(pot.row, begun)
        except Gave as gave:
            lane.held.append(gave.args[0])
        except Failed:
            raise Fails()
        finally:
            self.lanes.pop()
            pot.busy = False

    def do_scan(self, lane):
        worth, = self.take(lane)
        self.put(lane.scans, lane.look)
        check(is_text(worth))
        self.mark(lane, "look", lane.look)
        lane.look = (worth, 0)

    def do_leave(self, lane):
        check(lane.scans, "code")
        self.mark(lane, "look", lane.look)
        lane.look = lane.scans.pop()


class Fails(Exception):
    """An instruction that goes back."""

