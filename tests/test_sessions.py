"""[34] to [36]: sessions, step by step and back."""

import inspect
import random
import unittest

from triedagain import sessions
from triedagain.codes import Code
from triedagain.compiling import compiled, shortened
from triedagain.errors import BadLimit, BadPlace, NothingDone, Over, TooMany
from triedagain.machine import MachineRun
from triedagain.programs import Program
from triedagain.sessions import Session, traced
from tests.drawn import drawn_code, drawn_program
from tests.leader import Leader, Slow, tells
from tests.samples import raised
from tests.telling import program_of
from tests.test_machine import coded, worths

WENT, FAILED, CODE = ("went",), ("failed",), ("wrong", "code")
OVER = [None, [], [], [], {}, ("", 0)]


def stepped(rows, many=0, **entries):
    """A session of a code of these rows behind so many steps."""
    session = Session(coded(rows, **entries))
    for _ in range(many):
        session.step()
    return session


class Model(unittest.TestCase):
    """A session beside what the model tells, for all that is done with it."""

    def lead_to_the_end(self, code, most=60):
        """Steps on, then back to the beginning, and on again; tells after each step what the model tells."""
        session, leader = Session(code), Leader(code)
        told = [leader.tells()]
        answers = []
        self.assertEqual(told[0], tells(session))
        while len(answers) < most and not leader.over():
            answers.append(leader.step())
            told.append(leader.tells())
            self.assertEqual(answers[-1], session.step(), code.rows())
            self.assertEqual(told[-1], tells(session), code.rows())
        if leader.over():
            raised(self, Over, session.step)
            raised(self, Over, session.until, 0)
        for many in reversed(range(len(answers))):
            self.assertIsNone(session.back())
            self.assertEqual(told[many], tells(session), code.rows())
        raised(self, NothingDone, session.back)
        for many, answer in enumerate(answers):
            self.assertEqual(answer, session.step())
            self.assertEqual(told[many + 1], tells(session))
        return answers

    def lead_by_chance(self, code, chance, turns):
        """A family of sessions, each of which is led on and taken back for itself."""
        family = [(Session(code), Leader(code))]
        for _ in range(turns):
            session, leader = chance.choice(family)
            luck = chance.random()
            if luck < 0.1 and len(family) < 4:
                family.append((session.trial(), leader.trial()))
            elif luck < 0.35:
                for _ in range(min(chance.randrange(1, 9), len(leader.answers))):
                    session.back()
                    leader.back()
            elif luck < 0.5 and not leader.over():
                place = chance.randrange(len(code))
                self.same_outcome(lambda: leader.until(place), lambda: session.until(place))
            else:
                for _ in range(chance.randrange(1, 12)):
                    if not leader.over():
                        self.same_outcome(leader.step, session.step)
            self.compare(family)

    def same_outcome(self, awaited, work):
        try:
            answer = awaited()
        except Slow:
            self.assertEqual(20000, raised(self, TooMany, work).limit)
            return
        if answer is None:
            self.assertEqual(2000, raised(self, TooMany, work).limit)
        else:
            self.assertEqual(answer, work())

    def compare(self, family):
        told = [leader.tells() for _, leader in family]
        for awaited, (session, _) in zip(told, family):
            self.assertEqual(awaited, tells(session))
        for awaited, (session, _) in zip(told, family):
            for beside, (other, _) in zip(told, family):
                # All but the length.
                self.assertEqual(awaited[:-1] == beside[:-1], session == other)
                self.assertEqual(awaited[:-1] != beside[:-1], session != other)


class Steps(Model):
    def test_each_instruction(self):
        for rows, entries in (
                (worths(None, -3, "ab", "") + ["fail"], {}),
                ([("name", "x"), ("name", "f"), "fail"], {}),
                (worths(1) + [("give", "x"), ("give", "f"), ("name", "x"), "drop", ("name", "f"), "fail"], {}),
                (worths(1) + [("give", "x"), ("retry", 5), ("worth", 2), ("lend", "x"), ("lend", "y"), "fail"], {}),
                ([("retry", 3), ("worth", 2), ("lend", "x"), "fail", "fail"], {}),
                (worths(1, 2, 3) + [("list", 2), ("list", 2), ("list", 0), "fail"], {}),
                (worths(1, 5) + [("rows", "to"), "drop", ("retry", 4), "fail"], {}),
                (worths("abc") + [("rows", "items"), "fail"], {}),
                (worths("abab") + ["scan", ("worth", "b"), ("rows", "find"), ("worth", "a"), ("rows", "reach"), "fail"],
                 {}),
                ([("jump", 2), "fail", ("jump", 1)], {}),
                (["open", "open", ("retry", 4), "shut", "shut", "fail"], {}),
                (["open", ("retry", 2), "shut", ("worth", 1), "fail"], {}),
                (["open", "counter"] + worths(1) + [("retry", 5), ("tick", 1), "fail"], {}),
                (["counter", "open"] + worths(1, 4) + [("rows", "to"), ("tick", 2), "fail"], {}),
                (["counter", "counter"] + worths(1) + ["mark", "drop", ("any", 0)], {}),
                (["counter", ("worth", 1), "mark", "out", "fail"], {}),
                (["counter", ("retry", 6), ("worth", 1), "mark", "drop", "fail", ("any", 0), "fail"], {}),
                ([("name", "g"), ("worth", 7), ("call", 1), "fail", ("name", "a"), "back"], {"g": 4}),
                ([("name", "g"), ("worth", 7), ("call", 1), "out", "fail", ("retry", 7), ("name", "a"), "out", "fail"],
                 {"g": 5}),
                ([("retry", 4), ("name", "f"), ("call", 0), "fail", "fail", "open", ("retry", 4), "fall"], {"f": 5}),
                ([("keep", 5)] + worths(1, 3) + [("rows", "to"), "yield", ("give", "k"), "ask", ("name", "k"), "ask",
                                                 ("name", "k"), "ask", ("name", "k"), "ask", "fail"], {}),
                (worths("abc") + ["scan", ("worth", 2), ("deed", "move"), ("worth", 0), ("deed", "tab"), "leave",
                                  "fail"], {}),
                (worths("abc") + ["scan", ("worth", 1), ("deed", "tab"), ("name", "f"), ("call", 0), "out", "fail",
                                  ("worth", "xyz"), "scan", ("worth", 2), ("deed", "move"), "out", "fail"], {"f": 8})):
            code = coded(rows, **entries)
            self.assertGreaterEqual(len(self.lead_to_the_end(code)), 3)

    def test_each_deed(self):
        for items, word in (((7, 2), "+"), ((7, 2), "-"), ((7, 2), "*"), ((-7, 2), "/"), ((1, 0), "mod"),
                            (("a", "b"), "."), ((1, 2), "<"), ((2, 2), "<="), ((2, 1), "="), ((2, 2), "<>"),
                            ((None, None), "is"), (("1", 1), "isnt"), (("abc",), "size"), (("ab", 1), "at"),
                            (("ab", 2), "at"), ((5,), "say"), ((), "here"), ((0,), "move"), ((1,), "move"),
                            ((0,), "tab"), (("",), "match"), (("a",), "many"), ((1, "a"), "+"), ((1,), "put")):
            self.lead_to_the_end(coded(worths(*items) + [("deed", word), "fail"]))

    def test_deeds_on_lists_and_kept_ones(self):
        begin = [("list", 0), ("give", "l")]
        for deeds in (worths(4) + [("deed", "put"), ("name", "l"), ("list", 2), ("worth", 5), ("deed", "put")],
                      worths(4) + [("deed", "put"), ("deed", "take"), ("name", "l"), ("deed", "take")],
                      worths(4) + [("deed", "put")] + worths(0, 9) + [("deed", "place"), ("name", "l"), ("worth", 0),
                                                                     ("deed", "at"), "out"],
                      [("keep", 4), "yield", ("give", "k"), ("deed", "anew"), ("list", 2)]):
            self.lead_to_the_end(coded(begin + deeds + ["fail"]))

    def test_what_is_told_is_told_as_worth_tells_it(self):
        rows = worths(None, 3, "a") + [("name", "f"), ("keep", 6), "yield", "counter", ("list", 0), ("give", "l"),
                                       ("name", "l"), ("list", 2)]
        session = stepped(rows, 10)
        self.assertEqual([None, 3, "a", ("to", "f"), ("kept",), ("counter", 0), ("list", [("list", 0), ("list", 0)])],
                         session.held())
        self.assertEqual({"l": ("list", [])}, session.names())

    def test_what_it_tells_at_first(self):
        session = Session(code=coded(["fail", "fail"], main=1))
        self.assertEqual([1, [], [], [], {}, ("", 0), [], 1, False, 0], tells(session))

    def test_the_number_of_frames(self):
        rows = [("name", "f"), ("call", 0), "out", "fail", ("name", "f"), ("call", 0)]
        session = stepped(rows, f=4)
        depths = []
        while not session.over():
            depths.append(session.depth())
            answer = session.step()
        self.assertEqual(("wrong", "deep"), answer)
        self.assertEqual(sorted(list(range(1, 13)) * 2), depths)

    def test_a_kept_one_runs_in_one_step(self):
        rows = [("keep", 4), ("worth", 1), ("deed", "say"), "yield", "ask", "out"]
        session = stepped(rows, 1)
        self.assertEqual((WENT, ["1"], [1], 5), (session.step(), session.said(), session.held(), session.place()))
        session = stepped([("keep", 3), ("worth", 1), ("deed", "+"), "ask"], 1)
        self.assertEqual(CODE, session.step())
        session = stepped([("keep", 3), "drop", "drop", "ask"], 1)
        self.assertEqual([CODE] + OVER, [session.step()] + tells(session)[:6])
        # A kept one whose expression begins at the end of the code.
        rows = [("worth", 1), "out", ("name", "k"), "ask", ("give", "k"), ("jump", 3), ("keep", 4)]
        self.lead_to_the_end(coded(rows, main=6))

    def test_drawn_codes(self):
        for seed in range(150):
            self.lead_to_the_end(drawn_code(seed))

    def test_drawn_programs(self):
        for seed in range(40):
            code = compiled(drawn_program(seed))
            self.lead_to_the_end(code if seed % 2 else shortened(code), 150)

    def test_families_of_drawn_codes(self):
        for seed in range(250):
            code = drawn_code(seed) if seed % 2 else compiled(drawn_program(seed))
            self.lead_by_chance(shortened(code) if seed % 3 == 0 else code, random.Random(seed), 16)

    def test_it_tells_what_the_run_tells(self):
        for seed in range(60):
            code = shortened(compiled(drawn_program(seed)))
            run, session = MachineRun(code), Session(code)
            for _ in range(4):
                awaited = run.ask()
                answer = WENT
                while answer == WENT and not session.over():
                    answer = session.step()
                if awaited[0] != "gave" and answer == WENT:
                    break
                self.assertEqual((awaited, run.said()), (answer, session.said()))


class Results(unittest.TestCase):
    def test_while_a_result_is_out(self):
        rows = worths(9) + ["open", ("give", "x"), ("retry", 8)] + worths(1, 2) + [("rows", "to"), "out", "fail"]
        session = stepped(rows, 7)
        self.assertEqual([[9, 1], [0], {"x": 9}, 7], [session.held(), session.fences(), session.names(),
                                                     session.place()])
        marks = session.marks()
        self.assertEqual(("gave", "1"), session.step())
        self.assertEqual([None, [], [], marks + [("retry", 8), ("look", 0)], {}, ("", 0), [], 0, False, 8],
                         tells(session))
        # No instruction is done: it goes back to behind the out.
        self.assertEqual(WENT, session.step())
        self.assertEqual([8, [9], [0], marks, {"x": 9}, ("", 0), [], 1, False, 9], tells(session))
        self.assertEqual([WENT, ("gave", "2")], [session.step(), session.step()])

    def test_the_look_while_a_result_is_out(self):
        rows = worths("ab") + ["scan", ("worth", 1), ("deed", "tab"), "out", "fail"]
        session = stepped(rows, 4)
        self.assertEqual(("ab", 1), session.look())
        session.step()
        self.assertEqual((("", 0), [("look", 0), ("look", 0), ("retry", 5), ("look", 1)]),
                         (session.look(), session.marks()))
        session.step()
        self.assertEqual((("ab", 1), 5), (session.look(), session.place()))

    def test_behind_a_back_it_fails(self):
        session = stepped([("retry", 2)] + worths(1) + ["back"], 2)
        self.assertEqual([("gave", "1"), [], FAILED], [session.step(), session.marks(), session.step()])
        self.assertTrue(session.over())

    def test_when_the_run_is_over(self):
        for rows, answer in ((["fail"], FAILED), (["fall"], FAILED), (["drop"], CODE),
                             (worths("a", 1) + [("deed", "+")], ("wrong", "kind"))):
            session = stepped(worths("said") + [("deed", "say"), "scan", "open", ("worth", 4), ("lend", "x")] + rows)
            while not session.over():
                told = session.step()
            self.assertEqual([answer] + OVER + [["said"], 0, True], [told] + tells(session)[:-1])
            many = len(session)
            raised(self, Over, session.step)
            raised(self, Over, session.until, 0)
            self.assertEqual(many, len(session))
            self.assertEqual(OVER, tells(session)[:6])
            session.back()
            self.assertEqual((False, many - 1), (session.over(), len(session)))
            self.assertEqual(answer, session.step())

    def test_at_the_end_of_the_code(self):
        session = stepped(worths(1) + ["open"], 2)
        self.assertEqual((2, [1], 1), (session.place(), session.held(), session.depth()))
        self.assertEqual((CODE, True, 3), (session.step(), session.over(), len(session)))
        session.back()
        self.assertEqual((2, [1], [0], 2), (session.place(), session.held(), session.fences(), len(session)))


def much_code(many):
    """A code of which the ask at place 4 behind the list does so many instructions, in two kept ones."""
    inner = [("worth", 7), ("deed", "say"), "drop", ("name", "l"), ("worth", 7), ("deed", "put"), "drop"]
    # 3 are done by the outer one, 6 + 20 * 999 by what stands behind the pads.
    pads = many - 3 - len(inner) - 6 - 20 * 999
    begin = 5
    for _ in range(pads):
        inner.append(("jump", begin + len(inner) + 1))
    # Where the fail behind both rows stands, and where they end.
    fail = begin + len(inner) + 7
    inner += [("retry", fail + 1), ("worth", 1), ("worth", 20), ("rows", "to"), ("worth", 1), ("worth", 996),
              ("rows", "to"), "fail", ("worth", 1), "yield"]
    asks = begin + len(inner)
    rows = [("list", 0), ("give", "l"), "drop", ("keep", asks + 2), ("keep", asks)] + inner + ["ask", "yield", "ask"]
    return coded(rows + ["out", "fail"])


class Much(unittest.TestCase):
    def test_twenty_thousand_instructions(self):
        code = much_code(20000)
        session = Session(code)
        for _ in range(4):
            session.step()
        self.assertEqual(WENT, session.step())
        self.assertEqual(([1], ["7"], {"l": ("list", [7])}), (session.held(), session.said(), session.names()))
        self.assertEqual(("gave", "1"), session.step())
        self.assertEqual([0, 1, 2, 3, len(code) - 3, len(code) - 2], traced(code, 2000))
        self.assertEqual(("gave", "1"), MachineRun(code).ask())

    def test_one_more(self):
        code = much_code(20001)
        session = Session(code)
        for _ in range(4):
            session.step()
        told = tells(session)
        # So often that asks which were left half done would be too deep.
        for _ in range(14):
            self.assertEqual(20000, raised(self, TooMany, session.step).limit)
            self.assertEqual(told, tells(session))
        self.assertEqual({"l": ("list", [])}, session.names())
        self.assertEqual([], session.said())
        self.assertEqual(20000, raised(self, TooMany, session.until, len(code) - 1).limit)
        self.assertEqual(told, tells(session))
        self.assertEqual(20000, raised(self, TooMany, traced, code, 5).limit)
        self.assertEqual([0, 1, 2, 3], traced(code, 4))
        raised(self, BadLimit, traced, code, 0)
        self.assertEqual(("gave", "1"), MachineRun(code).ask())
        # It can be led on another way.
        trial = session.trial()
        session.back()
        self.assertEqual((3, 4), (len(session), len(trial)))
        self.assertEqual(told, tells(trial))
        self.assertEqual(WENT, session.step())
        self.assertEqual(trial, session)

    def test_the_end_of_the_code_behind_them(self):
        """At the end of the code no instruction is done, so these are not too many."""
        for pads in (1, 14, 15, 16, 40):
            rows = [("keep", 2), ("jump", 4), "ask", "out", ("retry", 12), ("worth", 1), ("worth", 20), ("rows", "to"),
                    ("worth", 1), ("worth", 996), ("rows", "to"), "fail"] + ["open"] * pads
            session = stepped(rows, 1)
            # The jump, the retry, the first row and the second one 20 times, which is gone through by the fail.
            if 1 + 1 + 3 + 20 * 999 + pads <= 20000:
                self.assertEqual(CODE, session.step())
            else:
                self.assertEqual(20000, raised(self, TooMany, session.step).limit)

    def test_until_leaves_the_steps_that_were_done(self):
        code = much_code(20001)
        session = Session(code)
        self.assertEqual(20000, raised(self, TooMany, session.until, len(code) - 1).limit)
        self.assertEqual((4, len(code) - 3), (len(session), session.place()))

    def test_a_second_ask_that_never_ends(self):
        # Asked again, the kept one goes back to its retry, and turns round there.
        rows = [("keep", 8), ("retry", 4), ("worth", 1), "yield", ("worth", 2), ("deed", "say"), "drop", ("jump", 4),
                ("give", "k"), "ask", ("name", "k"), "ask", "out"]
        session = stepped(rows, 4)
        told = tells(session)
        self.assertEqual(([1, ("kept",)], []), (session.held(), session.said()))
        for _ in range(3):
            self.assertEqual(20000, raised(self, TooMany, session.step).limit)
            self.assertEqual(told, tells(session))


class Until(unittest.TestCase):
    ROUND = [("worth", 1), "drop", ("jump", 0), "fail"]

    def test_reached_at_once_and_later(self):
        session = stepped(self.ROUND)
        for place, many in ((1, 1), (0, 3), (0, 6), (2, 8), (1, 10)):
            self.assertEqual(WENT, session.until(place))
            self.assertEqual((place, many), (session.place(), len(session)))

    def test_never(self):
        session = stepped(self.ROUND, 1)
        self.assertEqual(2000, raised(self, TooMany, session.until, place=3).limit)
        self.assertEqual((2001, 0), (len(session), session.place()))
        self.assertEqual(2000, raised(self, TooMany, session.until, 3).limit)
        self.assertEqual((4001, 2), (len(session), session.place()))
        session.back()
        self.assertEqual((4000, 1), (len(session), session.place()))

    def test_reached_with_the_last_step(self):
        rows = [("jump", k + 1) for k in range(2000)] + [("jump", 2001), "fail"]
        self.assertEqual(WENT, stepped(rows).until(2000))
        raised(self, TooMany, stepped(rows).until, 2001)

    def test_a_result_and_the_end_come_ahead(self):
        rows = worths(1, 2) + [("rows", "to"), "out", "fail", ("worth", 1)]
        session = stepped(rows)
        self.assertEqual([("gave", "1"), ("gave", "2"), FAILED], [session.until(5) for _ in range(3)])
        session = stepped(worths(1, 2))
        self.assertEqual((CODE, 3), (session.until(0), len(session)))

    def test_the_place_behind_a_result(self):
        session = stepped(worths(1) + ["out", "fail"], 2)
        self.assertEqual((WENT, 3), (session.until(2), len(session)))

    def test_bad_places(self):
        session = stepped(self.ROUND, 2)
        ended = stepped(["fail"] * 4, 1)
        self.assertTrue(ended.over())
        for place in (-1, 4, 5, 10 ** 30, True, False, None, "0", "", [0], (0,), {}, {0: 0}, Program([("main", (),
                                                                                                       ())])):
            for one in (session, ended):
                many = len(one)
                self.assertEqual(repr(place), repr(raised(self, BadPlace, one.until, place).spot))
                self.assertEqual(many, len(one))
        for place in range(4):
            raised(self, Over, ended.until, place)


class Back(unittest.TestCase):
    def test_back_over_until(self):
        session = stepped(Until.ROUND)
        session.until(2)
        session.until(0)
        for place in (2, 1, 0):
            self.assertIsNone(session.back())
            self.assertEqual(place, session.place())
        raised(self, NothingDone, session.back)
        self.assertEqual(0, len(session))

    def test_back_over_what_lists_hold(self):
        rows = [("list", 0), ("give", "l"), ("worth", 4), ("deed", "put"), ("worth", 0), ("worth", 5),
                ("deed", "place"), ("deed", "take"), "fail"]
        session = stepped(rows, 8)
        found = []
        while len(session) > 1:
            found.append(session.names()["l"][1] if session.names() else None)
            session.back()
        self.assertEqual([[], [5], [4], [4], [4], [], []], found)

    def test_back_over_kept_ones_that_had_gone_on(self):
        rows = [("keep", 5), ("worth", 1), ("worth", 3), ("rows", "to"), "yield", ("give", "k"), "ask", ("deed", "say"),
                "drop", ("name", "k"), ("jump", 6)]
        session = stepped(rows)
        while not session.over():
            session.step()
        self.assertEqual(["1", "2", "3"], session.said())
        while session.said() != ["1"]:
            session.back()
        trial = session.trial()
        for one in (session, trial):
            while not one.over():
                one.step()
            self.assertEqual(["1", "2", "3"], one.said())

    def test_forward_another_time_is_the_same(self):
        code = compiled(program_of("(l := [])", "(k := keep((1 to 3)))", "out(put(l, ask(k)))", "out(say(l))",
                                   "out(ask(k))"))
        session = Session(code)
        answers = []
        while not session.over():
            answers.append((session.step(), tells(session)))
        for many in (1, 7, 20, len(answers)):
            for _ in range(many):
                session.back()
            self.assertEqual(answers[-many:], [(session.step(), tells(session)) for _ in range(many)])


class Trials(unittest.TestCase):
    def test_each_one_for_itself(self):
        rows = [("list", 0), ("give", "l"), ("worth", 1), ("deed", "put"), ("deed", "say"), ("jump", 2)]
        session = stepped(rows, 5)
        trial = session.trial()
        self.assertEqual((session, 5), (trial, len(trial)))
        second = trial.trial()
        for _ in range(4):
            session.step()
        for _ in range(5):
            trial.back()
        self.assertEqual([("list", [1, 1])], session.held())
        self.assertEqual([[], []], [trial.held(), trial.said()])
        self.assertEqual(([("list", [1])], ["[1]"], 5), (second.held(), second.said(), len(second)))
        raised(self, NothingDone, trial.back)
        for _ in range(9):
            trial.step()
        self.assertEqual(session, trial)
        for one in (session, second, trial):
            while len(one) > 0:
                one.back()
        self.assertTrue(session == second == trial)

    def test_within_a_with(self):
        session = stepped(Until.ROUND, 1)
        with session.trial() as other:
            self.assertIsInstance(other, Session)
            other.step()
            self.assertEqual((1, 2), (session.place(), other.place()))
        other.step()
        self.assertEqual((1, 0, 3), (session.place(), other.place(), len(other)))
        with self.assertRaises(KeyError):
            with session.trial() as other:
                raise KeyError()
        with session as same:
            self.assertIs(same, session)

    def test_of_one_that_is_over_or_has_a_result_out(self):
        session = stepped(worths(1) + ["out", "fail"], 2)
        trial = session.trial()
        self.assertEqual([WENT, FAILED], [trial.step(), trial.step()])
        self.assertEqual((True, False, 4, 2), (trial.over(), session.over(), len(trial), len(session)))
        other = trial.trial()
        raised(self, Over, other.step)
        other.back()
        self.assertEqual((False, True), (other.over(), trial.over()))

    def test_what_is_returned_is_the_callers(self):
        rows = worths("a") + [("deed", "say"), ("list", 1), ("give", "x"), "open", ("retry", 0), "fail"]
        session = stepped(rows, 6)
        trial = session.trial()
        told = tells(session)
        for one in (session, trial):
            one.held()[0][1].append(3)
            one.held().append(4)
            one.names()["x"][1].clear()
            one.names()["y"] = 5
            one.names().clear()
            one.fences().append(6)
            one.marks().clear()
            one.said().append("b")
            self.assertEqual(told, tells(session))
            self.assertEqual(told, tells(trial))

    def test_a_long_session(self):
        session = stepped([("retry", 0), ("worth", 0), ("give", "x"), "drop", ("list", 0), ("give", "l"), "drop",
                           ("jump", 0)])
        for _ in range(2000):
            session.until(0)
        self.assertEqual((16000, 2000), (len(session), len(session.marks())))
        trial = session.trial()
        while len(trial) > 0:
            trial.back()
        self.assertEqual(([], 2000), (trial.marks(), len(session.marks())))


class Traced(unittest.TestCase):
    def test_places(self):
        rows = worths(1, 2) + [("rows", "to"), ("deed", "say"), "fail"]
        code = coded(rows)
        self.assertEqual([0, 1, 2, 3, 4, 3, 4], traced(code, 2000))
        for most in range(1, 8):
            self.assertEqual([0, 1, 2, 3, 4, 3, 4][:most], traced(code=code, most=most))

    def test_the_last_one_gives_or_ends(self):
        self.assertEqual([0, 1], traced(coded(worths(1) + ["out", "fail"]), 9))
        self.assertEqual([0, 1], traced(coded(worths(1) + ["back", "fail"]), 9))
        self.assertEqual([0, 1], traced(coded(worths(1) + ["shut", "fail"]), 9))
        self.assertEqual([2], traced(coded(worths(1, 2) + ["fall"], main=2), 9))

    def test_at_the_end_of_the_code_there_is_no_instruction(self):
        self.assertEqual([0, 1], traced(coded(worths(1, 2)), 2000))
        self.assertEqual([0], traced(coded([("retry", 0)]), 2000))

    def test_instructions_within_an_ask_are_not_told(self):
        rows = [("keep", 4), ("worth", 1), ("worth", 2), "yield", "ask", "out"]
        self.assertEqual([0, 4, 5], traced(coded(rows), 2000))

    def test_two_thousand(self):
        code = coded([("jump", 1), ("jump", 0)])
        self.assertEqual([0, 1] * 1000, traced(code, 2000))
        self.assertEqual([0], traced(code, 1))

    def test_bad_limits(self):
        code = coded(["fail"])
        for most in (0, -1, 2001, 100000, 10 ** 30, True, False, None, "1", "", [], [1], (1,), {}, {1: 1}):
            raised(self, BadLimit, traced, code, most)

    def test_drawn_codes(self):
        for seed in range(100):
            code = drawn_code(seed)
            leader, places = Leader(code), []
            while leader.mill.main.place < len(code) and len(places) < 50:
                places.append(leader.mill.main.place)
                if leader.step() != WENT:
                    break
            self.assertEqual(places, traced(code, 50))
            self.assertEqual(places[:3], traced(code, 3))


class Interface(unittest.TestCase):
    def test_names_and_arguments(self):
        methods = {"step": [], "until": ["place"], "back": [], "place": [], "held": [], "fences": [], "marks": [],
                   "names": [], "look": [], "said": [], "depth": [], "over": [], "trial": []}
        for name, arguments in methods.items():
            self.assertIn(name, vars(Session))
            self.assertEqual(["self"] + arguments, list(inspect.signature(vars(Session)[name]).parameters))
        for name in ("__len__", "__eq__"):
            self.assertIn(name, vars(Session))
        self.assertEqual(["code"], list(inspect.signature(Session).parameters))
        self.assertEqual(["code", "most"], list(inspect.signature(traced).parameters))
        for thing in (Session, traced):
            self.assertEqual("triedagain.sessions", thing.__module__)
            self.assertIs(thing, getattr(sessions, thing.__name__))

    def test_kinds_of_values(self):
        session = stepped(worths("ab") + ["scan", "open", ("retry", 0), ("worth", 1), "out"], 5)
        for _ in range(2):
            for told, kind in zip(tells(session), (int, list, list, list, dict, tuple, list, int, bool, int)):
                if told is not None:
                    self.assertIs(kind, told.__class__)
            for mark in session.marks():
                self.assertIs(tuple, mark.__class__)
            session.step()

    def test_the_code_is_not_changed(self):
        rows = [["worth", 1], ["out"], ["fail"]]
        code = Code(Program([("main", (), ())]), {"main": 0}, rows)
        other = Code(Program([("main", (), ())]), {"main": 0}, rows)
        session = Session(code)
        session.until(2)
        session.back()
        self.assertEqual(other, code)


if __name__ == "__main__":
    unittest.main()
