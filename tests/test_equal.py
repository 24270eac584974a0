"""[34]: which sessions are equal, and that nothing changes by asking it."""

import unittest

from triedagain.compiling import compiled
from triedagain.errors import TooMany
from triedagain.machine import MachineRun
from triedagain.programs import Program
from triedagain.sessions import Session
from tests.drawn import drawn_code, drawn_program
from tests.leader import Leader, tells
from tests.test_machine import coded, worths
from tests.test_sessions import FAILED, WENT, much_code, stepped

# Rows, two numbers of steps, and which of the nine things alone is not the same behind them.
DIFFER = (
    (0, [("jump", 1), ("jump", 0)], 0, 1),
    (1, [("worth", 1), ("jump", 0)], 2, 4),
    # A list that stays where it is, a list within a list, and a counter.
    (1, [("list", 0), ("worth", 1), ("deed", "put"), ("jump", 1)], 1, 4),
    (1, [("list", 0), ("list", 1), ("retry", 2), ("lend", "l"), ("name", "l"), ("worth", 0), ("deed", "at"),
         ("worth", 1), ("deed", "put"), "fail"], 2, 10),
    (1, ["counter", ("retry", 1), "open", ("worth", 9), ("tick", 20), "fail"], 1, 6),
    (2, ["open", ("jump", 0)], 0, 2),
    (3, [("retry", 0), ("jump", 0)], 2, 4),
    (3, [("retry", 0), ("retry", 0), "fail"], 0, 3),
    (4, [("worth", 1), ("give", "x"), "drop", ("jump", 0)], 0, 4),
    (4, [("list", 0), ("give", "l"), "drop", ("name", "l"), ("worth", 1), ("deed", "put"), "drop", ("jump", 3)], 3, 8),
    (5, ["open", ("worth", "a"), "scan", "shut", ("jump", 0)], 0, 5),
    (5, [("worth", "ab"), "scan", "open", ("worth", 1), ("deed", "move"), "drop", "shut", ("jump", 2)], 2, 8),
    (6, [("worth", 1), ("deed", "say"), "drop", ("jump", 0)], 4, 8),
    (7, [("name", "f"), ("call", 0)], 0, 2),
    (8, [("worth", 1), "back"], 2, 3),
)
# Lists, names, kept ones that had gone on, counters, words and looks change in it.
RICH = [("list", 0), ("give", "l"), ("keep", 8), ("name", "l"), ("worth", 1), ("deed", "put"), ("lend", "x"), "yield",
        "ask", ("worth", 2), ("deed", "put"), "counter", "open", ("worth", 1), ("tick", 9), ("deed", "say"),
        ("worth", "ab"), "scan", "out", "fail"]


def seen_in(things):
    """All that these hold, how deep ever, by its id: the thing itself, and the ids of what is in it, in order.

    As long as somebody keeps this, no id is used for another thing.
    """
    seen, waiting = {}, list(things)
    while waiting:
        thing = waiting.pop()
        if id(thing) in seen:
            continue
        within = thing if isinstance(thing, (list, tuple, dict)) else getattr(thing, "__dict__", {})
        if isinstance(within, dict):
            within = [part for pair in within.items() for part in pair]
        seen[id(thing)] = (thing, [id(part) for part in within])
        waiting.extend(within)
    return seen


def ids_in(seen):
    return {key: within for key, (_, within) in seen.items()}


def each_stand(session, most):
    """The session, and trials of trials that stand behind the steps from there on."""
    found = [session]
    while len(found) < most and not found[-1].over():
        found.append(found[-1].trial())
        found[-1].step()
    return found


def led_back(session, many):
    for _ in range(many):
        session.back()
    return session


def unlike_things(session, other):
    """Which of the nine things two sessions do not tell alike."""
    return [at for at, (one, two) in enumerate(zip(tells(session)[:-1], tells(other)[:-1])) if one != two]


class Judging(unittest.TestCase):
    def same(self, session, other):
        for one, two in ((session, other), (other, session)):
            self.assertIs(True, one == two)
            self.assertIs(False, one != two)

    def unlike(self, session, other):
        for one, two in ((session, other), (other, session)):
            self.assertIs(False, one == two)
            self.assertIs(True, one != two)

    def judge(self, family):
        """Each two are equal exactly if they tell the same; nothing changes by asking it, or what they tell."""
        told = [tells(session) for session in family]
        seen = seen_in(family)
        for session, awaited in zip(family, told):
            for other, beside in zip(family, told):
                if awaited[:-1] == beside[:-1]:
                    self.same(session, other)
                else:
                    self.unlike(session, other)
        self.unchanged(seen, family)
        self.assertEqual(told, [tells(session) for session in family])
        self.unchanged(seen, family)

    def unchanged(self, seen, things):
        self.assertTrue(ids_in(seen) == ids_in(seen_in(things)), "something changed")


class Same(Judging):
    def test_by_other_ways(self):
        for rows in ([("jump", 0)], ["open", "shut", ("jump", 0)], [("worth", 1), "drop", ("jump", 0)],
                     [("list", 0), "drop", ("jump", 0)], [("retry", 1), ("jump", 2), "open", "shut", ("jump", 1)]):
            session, other = stepped(rows, len(rows)), stepped(rows, 3 * len(rows))
            if rows[-1] == ("jump", 0):
                self.same(Session(coded(rows)), session)
                self.same(Session(coded(rows)), other)
                self.assertNotEqual(len(session), len(other))
            trial = other.trial()
            self.judge([session, other, trial, led_back(trial.trial(), 1), led_back(trial.trial(), 2 * len(rows))])

    def test_a_list_that_became_again_what_it_was(self):
        rows = [("list", 0), ("give", "l"), ("worth", 1), ("deed", "put"), ("deed", "take"), "drop", ("name", "l"),
                ("jump", 2)]
        for other in (stepped(rows, 8), stepped(rows, 2).trial().trial(), led_back(stepped(rows, 9), 1)):
            session = stepped(rows, 2)
            while len(other) < 8:
                other.step()
            self.assertEqual(([("list", [])], {"l": ("list", [])}, 8), (other.held(), other.names(), len(other)))
            self.same(session, other)
            for many in (1, 2):
                session.step()
                self.unlike(session, other)
                other.step()
                self.same(session, other)
            self.assertEqual([("list", [1])], session.held())
            self.same(led_back(session, 2), led_back(other, 2))

    def test_what_marks_hold_is_not_told(self):
        rows = worths(1, 2) + [("rows", "to"), ("retry", 7), "drop", "fail", "fail", "fail"]
        session, other = stepped(rows, 5), stepped(rows, 9)
        self.assertEqual(([("more", 3), ("retry", 7)], 5, []), (session.marks(), session.place(), session.held()))
        self.same(session, other)
        for answer, held in ((WENT, [2]), (FAILED, [])):
            session.step()
            self.assertEqual((answer, held), (other.step(), other.held()))
            self.unlike(session, other)

    def test_what_lists_within_lists_hold_is_not_told(self):
        rows = worths(0) + [("list", 1), ("list", 1), ("retry", 3), ("lend", "l"), ("name", "l"), ("worth", 0),
                            ("deed", "at"), ("worth", 0), ("worth", 5), ("deed", "place"), "fail"]
        session, other = stepped(rows, 3), stepped(rows, 12)
        self.assertEqual([("list", [("list", 1)])], session.held())
        self.same(session, other)
        for one in (session, other):
            for _ in range(5):
                one.step()
        self.assertEqual(([("list", [0])], [("list", [5])]), (session.held()[1:], other.held()[1:]))
        self.unlike(session, other)

    def test_whether_two_lists_are_one_is_not_told(self):
        rows = [("retry", 5), ("name", "g"), ("list", 0), ("call", 1), ("jump", 9), ("retry", 5), ("list", 0),
                ("list", 0), ("list", 2), "fail", ("name", "a"), ("name", "a"), ("list", 2), "back"]
        session, other = stepped(rows, 9, g=10), stepped(rows, 14, g=10)
        self.assertEqual([9, [("list", [("list", 0)] * 2)], [], [("retry", 5)]], tells(session)[:4])
        self.judge([session, other, session.trial(), led_back(session.trial(), 1), led_back(other.trial(), 1)])
        self.same(session, other)


class Unlike(Judging):
    def test_in_one_single_thing(self):
        for index, rows, first, second in DIFFER:
            session, other = stepped(rows, first), stepped(rows, second)
            trial = session.trial()
            for _ in range(second - first):
                trial.step()
            behind = led_back(trial.trial(), second - first)
            for one, two in ((session, other), (session, trial), (behind, trial), (behind, other)):
                self.assertEqual([index], unlike_things(one, two), rows)
                self.unlike(one, two)
            self.same(session, behind)
            self.same(trial, other)
            self.judge([session, other, trial, behind])

    def test_numbers_and_texts_that_look_alike(self):
        rows = worths(1, "1") + [("list", 2), ("rows", "items"), "fail"]
        session, other = stepped(rows, 4), stepped(rows, 5)
        self.assertEqual(([1], ["1"]), (session.held(), other.held()))
        self.assertEqual(tells(session)[2:9], tells(other)[2:9])
        self.unlike(session, other)

    def test_codes(self):
        session, other = stepped(["fail", "fail"]), stepped(["fail", "fall"])
        self.assertEqual(tells(session), tells(other))
        self.unlike(session, other)
        self.same(session, stepped(["fail", "fail"]))
        # A place that both tell, though main does not begin there in both, and programs with other procedures.
        self.unlike(stepped([("jump", 1), "fail"], 1), stepped([("jump", 1), "fail"], main=1))
        alone = Session(compiled(Program([("main", (), ())])))
        self.unlike(alone, Session(compiled(Program([("main", (), ()), ("f", (), ())]))))
        self.same(alone, Session(compiled(Program([["main", [], []]]))))

    def test_other_values(self):
        session = stepped([("list", 0), ("worth", 1), ("deed", "put"), "fail"], 3)
        other = led_back(session.trial(), 1)
        code = coded(["fail"])
        run = MachineRun(code)
        values = [None, True, False, 0, 3, "", "session", [], (), {}, session.held(), tells(session), code, run,
                  code.program(), Leader(code)]
        seen = seen_in([session, other, values])
        for value in values:
            self.unlike(session, value)
            self.unlike(other, value)
        self.unchanged(seen, [session, other, values])
        self.assertEqual((FAILED, [("list", [1])]), (run.ask(), session.held()))


class Trials(Judging):
    def test_trials_of_trials_at_unlike_steps(self):
        for _, rows, _, second in DIFFER:
            family, twins = each_stand(stepped(rows), second + 2), each_stand(stepped(rows), second + 2)
            for one, twin in zip(family, twins):
                self.same(one, twin)
            self.judge(family + twins[::3])

    def test_behind_back_and_until(self):
        rows = worths(1, 3) + [("rows", "to"), ("deed", "say"), ("lend", "x"), "open", ("retry", 8), "out", "fail"]
        session = stepped(rows)
        first = session.trial()
        self.assertEqual(WENT, session.until(6))
        second = session.trial()
        self.same(session, second)
        self.unlike(session, first)
        self.assertEqual([WENT, ("gave", "1")], [second.until(7), second.until(0)])
        self.unlike(session, second)
        third = second.trial()
        self.same(session, led_back(second, 2))
        self.assertEqual([WENT, ("gave", "2")], [third.until(6), third.until(0)])
        self.judge([session, first, second, third])
        self.same(session, led_back(third, len(third) - 6))
        self.same(first, led_back(third, 6))
        self.judge([session, first, second, third])
        self.assertEqual([("gave", "1")] * 3, [one.until(0) for one in (second, session, third)])
        self.judge([session, first, second, third])

    def test_behind_a_step_that_was_not_done(self):
        code = much_code(20001)
        session = Session(code)
        for _ in range(4):
            session.step()
        trial = session.trial()
        self.assertRaises(TooMany, session.step)
        self.judge([session, trial, led_back(trial.trial(), 1), Session(code)])
        self.same(session, trial)

    def test_all_goes_on_as_if_nothing_had_been_asked(self):
        session = stepped(RICH, 9)
        family = each_stand(session, 40)
        family += [led_back(one.trial(), len(one) - 3) for one in family]
        family += [stepped(RICH, 3), stepped(["fail"], 1), stepped(["fail"])]
        self.judge(family)
        leader = Leader(coded(RICH), 9)
        while not leader.over():
            self.assertEqual(leader.step(), session.step())
            self.unlike(session, family[-1])
            self.assertEqual(leader.tells(), tells(session))

    def test_drawn_codes(self):
        for seed in range(80):
            session = Session(drawn_code(seed) if seed % 2 else compiled(drawn_program(seed)))
            try:
                family = each_stand(session, 12)
            except TooMany:
                continue
            self.judge(family + [led_back(family[-1].trial(), len(family) // 2)])

    def test_many_marks(self):
        session = stepped([("retry", 0), ("jump", 0)])
        for _ in range(3000):
            session.until(0)
        trial = session.trial()
        self.same(session, trial)
        self.unlike(session, led_back(trial, 2))
        self.assertEqual((3000, 2999), (len(session.marks()), len(trial.marks())))


if __name__ == "__main__":
    unittest.main()
