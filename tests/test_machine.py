"""[28] to [31] and [33]: the machine, instruction by instruction."""

import unittest

from triedagain.codes import Code
from triedagain.errors import BadLimit, TooMany
from triedagain.machine import MachineRun, marks_put
from triedagain.programs import Program
from tests.samples import raised
from tests.telling import BUSY, CODE, COUNT, DEEP, FAILED, GREAT, KIND
from tests.test_runs import NO_LIMITS

PROGRAM = Program([("main", (), ()), ("f", (), ()), ("g", ("a",), ()), ("h", ("a", "b", "c"), ())])


def coded(rows, **entries):
    """The code of these rows; an instruction without anything behind its word may be just the word."""
    rows = [(row,) if isinstance(row, str) else row for row in rows]
    return Code(PROGRAM, {name: entries.get(name, 0) for name in PROGRAM.names()}, rows)


def worths(*items):
    return [("worth", item) for item in items]


ONES = worths(*[1] * 60)


class Machine(unittest.TestCase):
    def tells(self, rows, *answers, said=None, steps=100000, **entries):
        """Each answer is the words of a result, or FAILED or the like."""
        run = MachineRun(coded(rows, **entries))
        awaited = [("gave", answer) if isinstance(answer, str) else answer for answer in answers]
        self.assertEqual(awaited, [run.ask(steps=steps) for _ in awaited], rows)
        if said is not None:
            self.assertEqual(said, run.said())


class Worths(Machine):
    def test_worth(self):
        for worth, words in ((None, "nothing"), (-3, "-3"), ("ab", "ab"), ("", "")):
            self.tells(worths(worth) + ["out", "fail"], words, FAILED)

    def test_name_give_drop(self):
        self.tells([("name", "x"), "out", "fail"], "nothing")
        self.tells([("name", "f"), "out", "fail"], "to f")
        self.tells(worths(1, 2) + [("give", "f"), ("name", "f"), ("name", "x"), ("list", 4), "out"],
                   "[1, 2, 2, nothing]")
        self.tells(worths(1, 2) + ["drop", "out"], "1")
        self.tells(["counter"] + worths(1) + ["drop", "drop"] + worths(2) + ["out"], "2")
        self.tells(worths(1) + ["counter", "drop", "out"], "1")

    def test_lend(self):
        rows = worths(1) + [("give", "x"), ("retry", 6), ("worth", 2), ("lend", "x"), "fail", ("name", "x"), "out"]
        self.tells(rows, "1")
        self.tells([("retry", 6), ("worth", 2), ("lend", "f"), ("name", "f"), "out", "fail", ("name", "f"), "out"],
                   "2", "to f")
        self.tells(worths(2) + [("lend", "x"), ("name", "x"), ("list", 2), "out"], "[2, 2]", CODE)

    def test_list(self):
        self.tells([("list", 0), "out"], "[]")
        self.tells(worths(1, 2, 3, 4, 5) + [("list", 4), ("list", 2), ("list", 1), "out"], "[[..]]")
        self.tells(worths(1, 2, 3) + [("list", 3), "out"], "[1, 2, 3]")
        self.tells([("list", 0), ("give", "x"), "drop", ("name", "x"), ("worth", 1), ("deed", "put"), ("name", "x"),
                    ("list", 2), "out"], "[[..], [..]]")

    def test_deeds(self):
        for items, word, answer in (
                ((7, 2), "+", "9"), ((7, 2), "-", "5"), ((7, 2), "*", "14"), ((-7, 2), "/", "-4"),
                ((-7, 2), "mod", "1"), (("a", "b"), ".", "ab"), ((1, 2), "<", "2"), ((2, 2), "<=", "2"),
                ((2, 2), "=", "2"), ((1, 2), "<>", "2"), ((None, None), "is", "nothing"), (("1", 1), "isnt", "1"),
                (("abc",), "size", "3"), (("ab", 1), "at", "b"), ((5,), "say", "5"), ((), "here", "0"),
                ((0,), "move", ""), ((0,), "tab", ""), (("",), "match", "0")):
            rows = worths("under", *items) + [("deed", word), ("list", 2), "out", "fail"]
            self.tells(rows, f"['under', '{answer}']" if word in ". at move tab".split() else f"['under', {answer}]",
                       FAILED, said=["5"] if word == "say" else [])

    def test_deeds_without_a_result_go_back(self):
        for items, word in (((7, 0), "/"), ((7, 0), "mod"), ((2, 1), "<"), ((2, 1), "<="), ((2, 1), "="),
                            ((1, 1), "<>"), ((1, 2), "is"), ((1, 1), "isnt"), (("ab", 2), "at"), ((1,), "move"),
                            ((1,), "tab"), (("",), "many"), (("a",), "match")):
            at = len(items) + 3
            self.tells([("retry", at)] + worths(*items) + [("deed", word), "out"] + worths("back") + ["out"], "back",
                       CODE)
        self.tells([("retry", 4), ("list", 0), ("deed", "take"), "out", ("worth", "back"), "out"], "back")

    def test_deeds_on_things(self):
        self.tells([("list", 0), ("worth", 4), ("deed", "put"), ("deed", "size"), "out"], "1")
        self.tells(worths(4, 5) + [("list", 2), ("deed", "take"), "out"], "5")
        self.tells(worths(4, 5) + [("list", 2)] + worths(0, 9) + [("deed", "place"), "out"], "[9, 5]")

    def test_deeds_of_wrong_kinds(self):
        for items, word in ((("a", 2), "+"), (("a", 2), "."), ((None, 2), "<"), ((1, 2), "put"), ((1,), "take"),
                            ((1,), "size"), (("a", "b"), "at"), ((1, 2, 3), "place"), (("a",), "move"),
                            ((None,), "tab"), ((1,), "many"), ((1,), "match"), ((1,), "anew")):
            self.tells(worths(*items) + [("deed", word)], KIND, KIND)

    def test_great_ones(self):
        self.tells(worths(999, 999) + [("deed", "*")] + worths(999) + [("deed", "*")] + worths(999) + [("deed", "*")],
                   GREAT)
        self.tells(worths("a" * 20, "b" * 20) + [("deed", "."), ("worth", "c" * 20), ("deed", "."), ("worth", "d"),
                                                ("deed", ".")], GREAT)
        self.tells([("list", 0)] + worths(1) + [("deed", "put"), ("jump", 1)], GREAT)


class Looks(Machine):
    def test_scan_and_leave(self):
        rows = worths("abc") + ["scan", ("worth", 2), ("deed", "move"), ("deed", "here"), "leave", ("deed", "here"),
                                ("list", 3), "out", "fail"]
        self.tells(rows, "['ab', 2, 0]", FAILED)

    def test_going_back_over_marks_of_the_look(self):
        self.tells(worths("abc") + ["scan", ("retry", 6), ("worth", 2), ("deed", "tab"), "fail", ("deed", "here"),
                                    "out"],
                   "0")
        self.tells(worths("abc") + ["scan", ("worth", 1), ("deed", "tab"), ("retry", 8), "leave", "fail", "fail",
                                    ("deed", "here"), "out"], "1")
        self.tells([("retry", 4), ("worth", "abc"), "scan", "fail", ("worth", 1), ("deed", "tab"), "out"], FAILED)

    def test_scan_wants_a_text(self):
        for item in (None, 1):
            self.tells(worths(item) + ["scan"], KIND)
        self.tells([("list", 0), "scan"], KIND)

    def test_back_and_out_leave_all_scans(self):
        rows = [("name", "g"), ("worth", 1), ("call", 1), ("deed", "here"), ("list", 2), "out", "fail",
                ("worth", "xyz"), "scan", ("worth", 2), ("deed", "move"), ("worth", "uv"), "scan", ("deed", "here"),
                "out",
                ("deed", "here"), "back"]
        self.tells(rows, "[0, 0]", "[0, 0]", FAILED, g=7)
        rows = rows[:13] + [("worth", 1), ("deed", "move"), "out", ("deed", "here"), "back"]
        self.tells(rows, "['u', 0]", "[1, 0]", FAILED, g=7)

    def test_fall_leaves_all_scans(self):
        rows = [("worth", "abc"), "scan", ("worth", 1), ("deed", "move"), ("retry", 8), ("name", "f"), ("call", 0),
                "fail",
                ("deed", "here"), "out", ("worth", "xyz"), "scan", ("worth", 2), ("deed", "move"), "fall"]
        self.tells(rows, "1", f=10)
        # A fail would have gone back over the marks of the look, a fall takes them off.
        rows = [("worth", "abc"), "scan", ("retry", 6), ("name", "f"), ("call", 0), "fail", ("deed", "here"), "out",
                ("worth", 2), ("deed", "move"), "fall"]
        self.tells(rows, "2", f=8)
        self.tells(rows[:-1] + ["fail"], "0", f=8)

    def test_find_and_reach(self):
        rows = worths("abcab") + ["scan"] + worths("b")
        self.tells(rows + [("rows", "find"), "out", "fail"], "1", "4", FAILED)
        self.tells(rows + [("rows", "reach"), "out", "fail"], "1", "4", FAILED)
        self.tells(worths("abcab") + ["scan", ("worth", 2), ("deed", "tab"), ("worth", "ab"), ("rows", "find"), "out",
                                      "fail"], "3", FAILED)


class Rows(Machine):
    def test_one_by_one(self):
        self.tells(worths(2, 4) + [("rows", "to"), "out", "fail"], "2", "3", "4", FAILED, FAILED)
        self.tells(worths("ab") + [("rows", "items"), "out", "fail"], "a", "b", FAILED)
        self.tells(worths(4, 2) + [("rows", "to"), "out"], FAILED)

    def test_the_mark_that_gives_its_last_result_is_put_on_again(self):
        # The tick finds the mark of the row beyond its fence also behind the last result, and the fence where it was.
        rows = ["counter", "open", ("worth", 1), ("worth", 2), ("rows", "to"), ("tick", 2), "out", "fail"]
        self.tells(rows, "1", "2", FAILED)
        rows = worths(1, 1) + [("rows", "to"), "open", ("retry", 6), "shut", "out", "fail"]
        self.tells(rows, "1", FAILED)
        rows = worths(1, 2) + [("rows", "to"), "open", ("worth", 7), "shut", ("list", 2), "out", "fail"]
        self.tells(rows, "[1, 7]", "[2, 7]", FAILED)

    def test_the_stand_is_that_behind_what_was_taken(self):
        rows = worths("x", 1, 2) + ["open", ("rows", "to"), ("list", 2), "shut", "out", "fail"]
        self.tells(rows, "['x', 1]", FAILED)
        rows = worths("x", 1, 2) + [("rows", "to"), ("list", 2), "out", "fail"]
        self.tells(rows, "['x', 1]", "['x', 2]", FAILED)

    def test_a_list_that_grows(self):
        rows = [("worth", 1), ("list", 1), ("give", "l"), ("rows", "items"), "out", ("name", "l"), ("worth", 2),
                ("deed", "put"), "fail"]
        self.tells(rows, "1", "2", "2", "2")

    def test_other_kinds(self):
        self.tells(worths(1, "a") + [("rows", "to")], KIND)
        self.tells(worths("a", 1) + [("rows", "to")], KIND)
        self.tells(worths(1) + [("rows", "items")], KIND)
        self.tells(worths(None) + [("rows", "find")], KIND)
        self.tells(worths(1) + [("rows", "reach")], KIND)


class Marks(Machine):
    def test_jump_retry_fail(self):
        self.tells([("jump", 2), ("fail",), ("worth", 1), "out"], "1")
        self.tells([("retry", 4), ("worth", 1), "out", "fail", ("worth", 2), "out", "fail"], "1", "2", FAILED)
        self.tells(["fail"], FAILED, FAILED)
        self.tells([("retry", 3), ("retry", 6), "fail", ("worth", 1), "out", "fail", ("worth", 2), "out", "fail"],
                   "2", "1", FAILED)

    def test_a_retry_has_its_stand_as_it_was(self):
        rows = worths(1, 2) + [("retry", 6), "drop", "drop", "fail", ("list", 2), "out", "fail"]
        self.tells(rows, "[1, 2]", FAILED)
        rows = ["open", ("retry", 4), "shut", "fail", "shut", ("worth", 1), "out"]
        self.tells(rows, FAILED)
        rows = ["open", ("retry", 5), ("retry", 4), "fail", "fail", "shut", ("worth", 1), "out", "fail"]
        self.tells(rows, "1", FAILED)
        rows = worths("ab") + ["scan", ("retry", 5), "leave", "fail", "leave", ("deed", "here"), "out"]
        self.tells(rows, "0")

    def test_open_and_shut(self):
        rows = [("retry", 7), "open", ("retry", 9), "shut", ("worth", 1), "out", "fail", ("worth", 2), "out", "fail"]
        self.tells(rows, "1", "2", FAILED)
        rows = [("retry", 9), "open", ("retry", 11), "open", ("retry", 13), "shut", "shut", ("worth", 1), "out",
                ("worth", 2), "out", ("worth", 3), "out", ("worth", 4), "out"]
        self.tells(rows, "1", "2", "3")

    def test_counter_and_tick(self):
        rows = ["counter", "open"] + worths(1, 9) + [("rows", "to"), ("tick", 3), "out", "fail"]
        self.tells(rows, "1", "2", "3", FAILED)
        rows = ["counter", "open"] + worths(1, 2) + [("rows", "to"), ("tick", 3), "out", "fail"]
        self.tells(rows, "1", "2", FAILED)
        rows = worths("x") + ["counter", "open", ("worth", 1), ("tick", 1), ("list", 2), "out", "fail"]
        self.tells(rows, "['x', 1]", FAILED)

    def test_a_tick_beyond_its_number_cuts_no_more(self):
        rows = ["counter", ("give", "x")]
        self.tells(rows, CODE)
        # The counter is ticked once ahead of the row, with a number that it never holds there again.
        rows = ["counter", "open", ("worth", 0), ("retry", 7), ("tick", 20), "drop", "fail",
                ("retry", 11), ("tick", 20), "drop", "fail", "drop", ("worth", 1), ("worth", 3), ("rows", "to"),
                ("tick", 1), "out", "fail"]
        self.tells(rows, "1", "2", "3", FAILED)

    def test_tick_takes_any_item_as_the_last_one(self):
        rows = ["open", "counter", "counter", ("tick", 1), "drop", ("worth", 1), "out"]
        self.tells(rows, "1")

    def test_mark_and_any(self):
        rows = ["counter", ("retry", 6), ("worth", 1), "mark", "out", "fail", ("any", 7), ("worth", 2), "out", "fail"]
        self.tells(rows, "1", "2", FAILED)
        rows = ["counter", ("retry", 3), "fail", ("any", 4), ("worth", 2), "out"]
        self.tells(rows, FAILED)
        rows = ["counter", "counter", "mark", "drop"] + worths(1) + ["out"]
        self.tells(rows, "1")
        rows = ["counter", ("retry", 4), ("worth", 1), ("jump", 5), ("any", 2), "mark", ("list", 1), "out"]
        self.tells(rows, "[1]")

    def test_any_wants_one(self):
        rows = ["counter", "open", ("worth", 0), ("retry", 6), ("tick", 9), "fail", "open", ("retry", 10), ("tick", 9),
                "fail", "drop", ("any", 11), "out"]
        # It was ticked twice, so it holds 2.
        self.tells(rows, FAILED)
        rows = ["counter", "open", ("worth", 0), ("retry", 6), ("tick", 9), "fail", "drop", ("any", 8), ("worth", 5),
                "out"]
        self.tells(rows, "5")


class Calls(Machine):
    def test_params(self):
        rows = [("name", "h")] + worths(1, 2, 3) + [("call", 3), "out", "fail", ("name", "a"), ("name", "b"),
                                                    ("name", "c"),
                                                   ("name", "d"), ("list", 4), "back"]
        self.tells(rows, "[1, 2, 3, nothing]", FAILED, h=7)

    def test_the_stand_of_a_call_is_empty_and_the_callers_comes_back(self):
        rows = worths("x") + [("name", "f"), ("call", 0), ("list", 2), "out", "fail", ("worth", 1), "out", "drop"]
        self.tells(rows, "['x', 1]", CODE, f=6)
        for taking in ("shut", "leave"):
            rows = worths("x") + ["open", "scan", ("name", "f"), ("call", 0), taking]
            self.tells(rows, CODE, f=5)

    def test_back_takes_off_the_marks_of_the_call_alone(self):
        rows = [("retry", 5), ("name", "f"), ("call", 0), "out", "fail", ("worth", 2), "out", "fail",
                ("retry", 10), ("worth", 1), "back"]
        self.tells(rows, "1", "2", FAILED, f=8)

    def test_out_goes_on_behind_it(self):
        rows = [("name", "f"), ("call", 0), "out", "fail"] + worths(1) + ["out"] + worths(2) + ["out", "fail"]
        self.tells(rows, "1", "2", FAILED, f=4)
        rows = [("name", "f"), ("call", 0), "out", "fail"] + worths("under", 1) + ["out", "out", "fail"]
        self.tells(rows, "1", "under", FAILED, f=4)

    def test_fall(self):
        rows = [("retry", 5), ("name", "f"), ("call", 0), "out", "fail", ("worth", 2), "out", "fail", ("retry", 10),
                "fall", ("worth", 1), "back"]
        self.tells(rows, "2", FAILED, f=8)
        self.tells([("retry", 2), "fall", ("worth", 1), "out"], FAILED)

    def test_main_gives(self):
        self.tells(worths(1) + [("retry", 0), "back"], "1", FAILED, FAILED)
        self.tells([("retry", 3), ("worth", 1), "out", ("worth", 2), "back"], "1", "2", FAILED)
        self.tells(worths("under", 1) + ["out", "out", "fail"], "1", "under", FAILED)

    def test_errors(self):
        self.tells(worths(1) + [("call", 0)], KIND)
        self.tells(worths(1, 2) + [("call", 1)], KIND)
        self.tells([("name", "f"), ("worth", 1), ("call", 1)], COUNT)
        self.tells([("name", "g"), ("call", 0)], COUNT)
        self.tells([("name", "f"), ("call", 0)], DEEP)
        self.tells([("name", "g"), ("worth", 1), ("call", 1)], DEEP, g=0)

    def test_depth_of_twelve(self):
        rows = [("name", "g"), ("worth", 1), ("call", 1), "out", "fail",
                ("retry", 11), ("name", "a"), ("worth", "most"), ("deed", "<"), "drop", ("jump", 13),
                ("worth", "end"), "back", ("name", "g"), ("name", "a"), ("worth", 1), ("deed", "+"), ("call", 1),
                "back"]
        # The call with a = n is the call of depth n + 1.
        for most, answer in ((11, "end"), (12, DEEP)):
            rows[7] = ("worth", most)
            self.tells(rows, answer, g=5)


class Kept(Machine):
    def test_keep_yield_ask(self):
        rows = [("keep", 5), ("worth", 1), ("worth", 2), ("rows", "to"), "yield", ("give", "k"), "ask", ("name", "k"),
                "ask",
                ("list", 2), "out", "fail"]
        self.tells(rows, "[1, 2]", FAILED)
        rows = rows[:6] + ["ask", "out", ("name", "k"), ("jump", 6)]
        self.tells(rows, "1", "2", FAILED, FAILED)

    def test_the_ask_that_failed_goes_back(self):
        rows = [("keep", 2), "fail", ("give", "k"), ("retry", 7), ("name", "k"), "ask", "out", ("name", "k"), "ask",
                "out"]
        self.tells(rows, FAILED)
        rows = [("keep", 2), "fail", ("give", "k"), ("retry", 7), ("name", "k"), "ask", "out", ("worth", 3), "out"]
        self.tells(rows, "3")

    def test_names_as_they_are(self):
        rows = worths(1) + [("give", "x"), ("keep", 5), ("name", "x"), "yield", ("worth", 2), ("give", "x"), "drop",
                            "ask",
                            "out"]
        self.tells(rows, "1")
        rows = worths(1) + [("give", "x"), ("keep", 6), ("worth", 5), ("give", "x"), "yield", "ask", ("name", "x"),
                            ("list", 2), "out"]
        self.tells(rows, "[5, 1]")

    def test_an_empty_stand_a_look_and_marks_of_its_own(self):
        for taking, answer in (("drop", CODE), ("shut", CODE), ("leave", CODE), ("fail", FAILED), ("fall", CODE)):
            rows = ["open", ("worth", 1), ("worth", "ab"), "scan", ("keep", 7), taking, "yield", "ask"]
            self.tells(rows, answer)
        rows = worths("abc") + ["scan", ("worth", 2), ("deed", "tab"), ("keep", 7), ("deed", "here"), "yield", "ask",
                                ("deed", "here"), ("list", 3), "out"]
        self.tells(rows, "['ab', 0, 2]")

    def test_what_it_looked_at_is_kept(self):
        rows = [("keep", 9), ("worth", "abcd"), "scan", ("worth", 1), ("deed", "move"), "yield", "leave", "fail",
                "fail",
                ("give", "k"), "ask", "out"]
        self.tells(rows, "a")
        # The mark ahead of the yield leads on behind it, with the look as it was then.
        rows = [("keep", 9), ("worth", "abcd"), "scan", ("worth", 1), ("deed", "tab"), ("retry", 7), "yield",
                ("deed", "here"), "yield", ("give", "k"), "ask", ("deed", "here"), ("name", "k"), "ask", ("list", 3),
                "out"]
        self.tells(rows, "['a', 0, 1]")

    def test_yield_where_nothing_is_asked(self):
        self.tells(worths(1) + ["yield"], CODE)
        self.tells([("name", "f"), ("call", 0), ("worth", 1), "yield"], CODE, f=2)

    def test_back_out_and_fall_in_its_own_frame(self):
        for word in ("back", "out", "fall"):
            self.tells([("keep", 3), ("worth", 1), word, "ask"], CODE)

    def test_a_call_within_it(self):
        rows = [("keep", 4), ("name", "f"), ("call", 0), "yield", ("give", "k"), "ask", "out", ("name", "k"),
                ("jump", 5)]
        self.tells(rows + ["fail"], FAILED, f=9)
        self.tells(rows + worths(1) + ["back"], "1", FAILED, f=9)
        self.tells(rows + worths(1) + ["out"] + worths(2) + ["out", "fail"], "1", "2", FAILED, f=9)
        self.tells(rows + ["fall"], FAILED, f=9)

    def test_a_yield_in_a_call_within_it_is_its_own(self):
        rows = [("keep", 4), ("name", "f"), ("call", 0), "yield", ("give", "k"), "ask", "out", ("name", "k"),
                ("jump", 5)]
        self.tells(rows + [("retry", 12), ("worth", 1), "yield", ("worth", 2), "back"], "1", "2", FAILED, f=9)
        self.tells(rows + worths(1) + ["yield"], "1", FAILED, f=9)

    def test_anew(self):
        rows = [("keep", 5), ("worth", 1), ("worth", 2), ("rows", "to"), "yield", ("give", "k"), "ask", ("name", "k"),
                "ask",
                ("name", "k"), ("deed", "anew"), "ask", ("list", 3), "out"]
        self.tells(rows, "[1, 2, 1]")

    def test_errors(self):
        for row in worths(None, 1, "a") + [("list", 0), ("name", "f")]:
            self.tells([row, "ask"], KIND)
            self.tells([row, ("deed", "anew")], KIND)

    def test_one_that_asks_itself(self):
        rows = [("list", 0), ("give", "l"), ("keep", 8), ("name", "l"), ("worth", 0), ("deed", "at"), "ask", "yield",
                ("deed", "put"), ("worth", 0), ("deed", "at"), "ask", "out"]
        self.tells(rows, BUSY, BUSY)

    def test_the_expression_begins_at_the_end(self):
        self.tells([("worth", 1), "out", ("name", "k"), "ask", ("give", "k"), ("jump", 3), ("keep", 4)], CODE, main=6)

    def test_asks_count_for_the_depth(self):
        rows = [("keep", 4), ("name", "f"), ("call", 0), "yield", "ask", "back"]
        self.tells(rows, DEEP)
        # A kept one made anew and asked within itself: each ask counts one.
        rows = [("list", 0), ("give", "l"), ("keep", 9), ("name", "l"), ("worth", 0), ("deed", "at"), ("deed", "anew"),
                "ask",
                "yield", ("deed", "put"), ("worth", 0), ("deed", "at"), "ask", "out"]
        self.tells(rows, DEEP)

    def test_wrong_within_it_ends_the_run(self):
        self.tells([("retry", 0), ("keep", 5), ("worth", "a"), ("deed", "say"), ("deed", "+"), "ask"], CODE, said=["a"])
        self.tells([("retry", 0), ("keep", 6), ("worth", "a"), ("deed", "say"), ("worth", 1), ("deed", "+"), "ask"],
                   KIND,
                   KIND, said=["a"])


class WrongCode(Machine):
    def test_what_held_lacks(self):
        for taking, many in ((("give", "x"), 1), (("lend", "x"), 1), ("drop", 1), (("list", 1), 1), (("list", 4), 4),
                             (("rows", "to"), 2), (("rows", "items"), 1), (("rows", "find"), 1), (("rows", "reach"), 1),
                             (("any", 0), 1), (("call", 0), 1), (("call", 3), 4), ("back", 1), ("out", 1), ("yield", 1),
                             ("ask", 1), ("scan", 1), (("deed", "+"), 2), (("deed", "is"), 2), (("deed", "put"), 2),
                             (("deed", "take"), 1), (("deed", "size"), 1), (("deed", "at"), 2), (("deed", "place"), 3),
                             (("deed", "say"), 1), (("deed", "move"), 1), (("deed", "tab"), 1), (("deed", "many"), 1),
                             (("deed", "match"), 1), (("deed", "anew"), 1), (("deed", "."), 2), (("deed", "<"), 2)):
            for held in range(many):
                self.tells(worths(*[1] * held) + [taking], CODE, CODE, said=[])

    def test_counters_where_worths_are_wanted(self):
        for taking, many in ((("give", "x"), 1), (("lend", "x"), 1), (("list", 1), 1), (("rows", "items"), 1),
                             ("back", 1),
                             ("out", 1), ("ask", 1), ("scan", 1), (("deed", "say"), 1), (("deed", "is"), 2),
                             (("deed", "isnt"), 2), (("deed", "+"), 2), (("deed", "place"), 3), (("rows", "to"), 2),
                             (("list", 3), 3), (("call", 2), 3), (("call", 0), 1), (("deed", "take"), 1)):
            for at in range(many):
                rows = worths(*[1] * many)
                rows[at] = "counter"
                self.tells(rows + [taking], CODE, said=[])
        self.tells(["counter"] + worths(1) + [("give", "x"), "out"], "1")

    def test_worths_where_counters_are_wanted(self):
        for rows in (worths(1) + [("any", 0)], worths(1, 1) + ["mark"], worths(1) + ["mark"], ["counter", "mark"],
                     worths(1) + ["counter", "mark"], ["mark"], ["open", ("tick", 1)], ["open", "counter", ("tick", 1)],
                     ["open"] + worths(1, 1) + [("tick", 1)], ["open"] + worths(1) + ["counter", ("tick", 1)],
                     [("list", 0), ("any", 0)]):
            self.tells(rows, CODE)

    def test_fences_and_scans_that_lack(self):
        self.tells(["shut"], CODE)
        self.tells(["open", "shut", "shut"], CODE)
        self.tells(["counter"] + worths(1) + [("tick", 1)], CODE)
        self.tells(["leave"], CODE)
        self.tells(worths("a") + ["scan", "leave", "leave", "fail"], CODE)

    def test_sixty_held_and_one_more(self):
        for putting in (("worth", 1), ("name", "x"), "counter", ("list", 0), ("deed", "here"), ("keep", 60)):
            self.tells(ONES[1:] + [putting, "fail"], FAILED)
            self.tells(ONES + [putting, "fail"], CODE)
        for row in (("give", "x"), ("lend", "x"), ("list", 1), ("deed", "say"), ("deed", "is"), ("list", 4), "drop"):
            self.tells(ONES + [row, "fail"], FAILED)
        self.tells(ONES + [("rows", "to"), "fail"], FAILED)
        self.tells(ONES[1:] + [("name", "f"), ("call", 0), "out", "fail", ("worth", 1), "back"], "1", f=63)

    def test_sixty_fences_and_one_more(self):
        self.tells(["open"] * 60 + ["fail"], FAILED)
        self.tells(["open"] * 61 + ["fail"], CODE)

    def test_sixty_scans_and_one_more(self):
        self.tells([("worth", "a"), "scan"] * 60 + ["fail"], FAILED)
        self.tells([("worth", "a"), "scan"] * 61 + ["fail"], CODE)

    def test_each_call_has_rows_of_its_own(self):
        self.tells(ONES[1:] + [("name", "f"), ("call", 0), "out"] + ONES + ["back"], "1", f=62)

    def test_the_end_of_the_code(self):
        self.tells(worths(1), CODE, CODE)
        self.tells(worths(1) + ["out"], "1", CODE)
        self.tells([("retry", 0)], CODE)
        self.tells([("name", "f"), ("call", 0)], CODE, f=1)
        self.tells(worths(1) + ["back"], "1", FAILED)
        self.tells([("jump", 2), "fail", ("worth", 1)], CODE)
        self.tells(worths(1) + ["out"], "1", CODE, steps=2)

    def test_code_goes_ahead_of_all_else(self):
        self.tells([("worth", "a"), "scan"] * 60 + worths(1) + ["scan"], CODE)
        self.tells(["counter"] + worths("a") + [("deed", "+")], CODE)
        self.tells(worths(1) + ["counter", ("call", 1)], CODE)
        self.tells([("keep", 3)] + worths("a") + ["out", "ask"], CODE)
        self.tells(worths(1) + [("list", 1), "counter", ("deed", "put")], CODE)
        self.tells(["counter", ("worth", "a"), ("rows", "to")], CODE)

    def test_kind_ahead_of_great_and_count(self):
        self.tells(worths(*["a"] * 4) + [("list", 4)] + worths(1) + [("deed", "+")], KIND)
        self.tells(worths(1, 2) + [("call", 1)], KIND)
        rows = [("name", "f"), ("worth", 1), ("call", 1)]
        self.tells(rows, COUNT)

    def test_count_and_kind_ahead_of_deep(self):
        # f calls itself until it is 12 deep, and then does what stands behind.
        rows = [("name", "g"), ("worth", 1), ("call", 1), "out",
                ("retry", 10), ("name", "a"), ("worth", 11), ("deed", "<"), "drop", ("jump", 15)]
        deeper = [("name", "g"), ("name", "a"), ("worth", 1), ("deed", "+"), ("call", 1)]
        for last, answer in (([("name", "f"), ("worth", 1), ("call", 1), "fail", "fail"], COUNT),
                             ([("worth", 1), ("call", 0), "fail", "fail", "fail"], KIND),
                             ([("worth", 1), "ask", "fail", "fail", "fail"], KIND),
                             ([("counter",), ("call", 0), "fail", "fail", "fail"], CODE),
                             ([("keep", 11), "ask", "fail", "fail", "fail"], DEEP),
                             ([("name", "f"), ("call", 0), "fail", "fail", "fail"], DEEP)):
            self.tells(rows + last + deeper, answer, g=4)

    def test_an_instruction_that_is_wrong_does_nothing_else(self):
        run = MachineRun(coded([("worth", 1), ("deed", "say"), "drop", "counter", ("deed", "say")]))
        self.assertEqual(CODE, run.ask())
        self.assertEqual(["1"], run.said())
        self.assertEqual(0, marks_put(coded(worths(1) + [("rows", "find")]), 1))
        self.assertEqual(0, marks_put(coded(worths(1) + ["scan"]), 1))
        self.assertEqual(0, marks_put(coded(["leave"]), 1))
        self.assertEqual(0, marks_put(coded([("lend", "x")]), 1))
        self.assertEqual(0, marks_put(coded(worths("a") + [("deed", "move")]), 1))


class Steps(Machine):
    def test_a_step_is_an_instruction(self):
        rows = worths(1, 2) + [("rows", "to"), "out", "fail"]
        for steps, answers in ((4, ["1", "2", FAILED]), (3, [])):
            run = MachineRun(coded(rows))
            for answer in answers:
                self.assertEqual(answer if answer == FAILED else ("gave", answer), run.ask(steps=steps))
            if not answers:
                self.assertEqual(3, raised(self, TooMany, run.ask, steps=steps).limit)
                self.assertEqual(9, raised(self, TooMany, run.ask, steps=9).limit)

    def test_going_back_is_no_step(self):
        run = MachineRun(coded(worths(1, 2) + [("rows", "to"), "out", "fail"]))
        run.ask()
        self.assertEqual(("gave", "2"), run.ask(steps=2))
        self.assertEqual(FAILED, run.ask(steps=1))

    def test_instructions_within_kept_ones_count(self):
        rows = [("keep", 4), ("worth", 1), ("worth", 2), "yield", "ask", "out"]
        self.assertEqual(("gave", "2"), MachineRun(coded(rows)).ask(steps=6))
        raised(self, TooMany, MachineRun(coded(rows)).ask, steps=5)

    def test_an_instruction_that_is_wrong_counts(self):
        self.assertEqual(CODE, MachineRun(coded(["drop"])).ask(steps=1))
        self.assertEqual(CODE, MachineRun(coded(worths(1) + ["shut"])).ask(steps=2))
        raised(self, TooMany, MachineRun(coded(worths(1) + ["shut"])).ask, steps=1)

    def test_what_never_ends(self):
        for rows in ([("jump", 0)], [("jump", 1), ("jump", 0)], [("retry", 0), "fail"], ["open", "shut", ("jump", 0)]):
            raised(self, TooMany, MachineRun(coded(rows)).ask, steps=1000)
            raised(self, TooMany, MachineRun(coded(rows)).ask)


class MarksPut(Machine):
    def put(self, many, rows, asks=1, **entries):
        self.assertEqual(many, marks_put(coded(rows, **entries), asks), rows)

    def test_each_instruction(self):
        self.put(0, worths(1) + [("give", "x"), "drop", ("list", 0), ("deed", "size"), "open", "counter"] + worths(1) +
                 [("tick", 1), "drop", "fail"])
        self.put(1, [("retry", 1), "fail"])
        self.put(1, worths(1) + [("lend", "x"), "fail"])
        self.put(1, worths(0) + [("deed", "move"), "fail"])
        self.put(1, worths(0) + [("deed", "tab"), "fail"])
        self.put(0, worths("") + [("deed", "match"), "fail"])
        self.put(0, worths("") + [("deed", "many"), "fail"])
        self.put(1, worths("a") + ["scan", "fail"])
        self.put(2, worths("a") + ["scan", "leave", "fail"])
        self.put(1, worths(1, 0) + [("rows", "to"), "fail"])
        self.put(2, worths(1) + ["out"])
        self.put(0, worths(1) + ["back"])
        self.put(0, ["fall"])

    def test_a_look_that_does_not_move_puts_on_no_mark(self):
        self.put(0, worths(1) + [("deed", "move"), "fail"])
        self.put(0, worths(1) + [("deed", "tab"), "fail"])

    def test_a_row_that_goes_on_puts_on_no_more(self):
        rows = worths(1, 5) + [("rows", "to"), "back"]
        self.put(1, rows, 9)
        self.put(1, worths(1, 5) + [("rows", "to"), "fail"])
        rows = worths(1, 3) + [("rows", "to"), "out", "fail"]
        for asks, many in ((1, 3), (2, 5), (3, 7), (4, 7), (1000, 7)):
            self.put(many, rows, asks)

    def test_those_of_calls_and_kept_ones(self):
        self.put(1, [("name", "f"), ("call", 0), "fail", ("retry", 4), "fail"], f=3)
        self.put(2, [("keep", 5), ("retry", 3), ("worth", 1), ("worth", 2), "yield", ("retry", 7), "ask", "fail"])

    def test_errors(self):
        endless = coded([("retry", 1), ("jump", 0)])
        for asks in NO_LIMITS + (1001, 100000):
            raised(self, BadLimit, marks_put, endless, asks)
            raised(self, BadLimit, marks_put, endless, asks, steps=0)
        for steps in NO_LIMITS:
            raised(self, BadLimit, marks_put, endless, 1, steps=steps)
        self.assertEqual(77, raised(self, TooMany, marks_put, endless, 1, steps=77).limit)
        self.assertEqual(100000, raised(self, TooMany, marks_put, endless, 1000).limit)
        rows = worths(1, 5) + [("rows", "to"), "out", "fail"]
        self.assertEqual(11, marks_put(code=coded(rows), asks=1000, steps=4))
        raised(self, TooMany, marks_put, coded(rows), 1000, steps=3)


if __name__ == "__main__":
    unittest.main()
