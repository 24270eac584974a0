"""A session told a second time, over the machine of tests.mill: a step is taken back by doing all others anew."""

from tests.mill import Count, Failed, Fails, Gave, Mill, Slow
from tests.plain import Wrong, check, told, words

WENT = ("went",)


class Leader:
    def __init__(self, code, steps=0):
        self.code = code
        self.stand_at(steps)

    def stand_at(self, steps):
        self.mill, self.answers = Mill(self.code), []
        for _ in range(steps):
            self.step()

    def over(self):
        return bool(self.answers) and self.answers[-1][0] in ("failed", "wrong")

    def step(self):
        done = len(self.answers)
        try:
            answer = self.stepped()
        except Gave as gave:
            answer = ("gave", words(gave.args[0]))
        except Failed:
            answer = ("failed",)
        except Wrong as wrong:
            answer = ("wrong", wrong.args[0])
        except Slow:
            self.stand_at(done)
            raise
        self.answers.append(answer)
        return answer

    def stepped(self):
        mill, lane = self.mill, self.mill.main
        mill.count, mill.limit = 0, 20000
        if self.answers and self.answers[-1][0] == "gave":
            mill.back_off(lane)
            return WENT
        check(lane.place < len(mill.rows), "code")
        row = mill.rows[lane.place]
        lane.place += 1
        try:
            getattr(mill, "do_" + row[0])(lane, *row[1:])
        except Fails:
            mill.back_off(lane)
        return WENT

    def until(self, place):
        """What until returns, or None where it did too many steps."""
        for _ in range(2000):
            answer = self.step()
            if answer != WENT or self.mill.main.place == place:
                return answer
        return None

    def back(self):
        self.stand_at(len(self.answers) - 1)

    def trial(self):
        return Leader(self.code, len(self.answers))

    def tells(self):
        """All that the session tells, in the order of the methods below."""
        lane = self.mill.main
        running = not self.answers or self.answers[-1] == WENT
        over = self.over()
        return [
            lane.place if running else None,
            [("counter", item.n) if isinstance(item, Count) else told(item) for item in lane.held] if running else [],
            list(lane.fences) if running else [],
            [] if over else [self.mark(*mark) for mark in lane.marks],
            {name: told(worth) for name, worth in lane.frame.names.items()} if running else {},
            ("", 0) if over else lane.look,
            list(self.mill.said),
            lane.frames() if running else 0,
            over,
            len(self.answers),
        ]

    def mark(self, kind, first, *others):
        if kind in ("retry", "more"):
            return (kind, first[1])
        return (kind, others[0]) if kind == "unlend" else (kind, first[1])


def tells(session):
    """All that a session tells, in the order of Leader.tells."""
    return [session.place(), session.held(), session.fences(), session.marks(), session.names(), session.look(),
            session.said(), session.depth(), session.over(), len(session)]
