"""[21] and [22]: kept expressions and calls; [23]: what is wrong ends the run."""

import unittest

from tests.telling import BUSY, COUNT, DEEP, FAILED, KIND, Telling


class Kept(Telling):
    def test_it_goes_on_where_it_was(self):
        self.tells(("(k := keep((1 to 3)))", "out([ask(k), ask(k)])", "out(ask(k))", "out(ask(k))"),
                   "[1, 2]", "3", FAILED)

    def test_an_ask_has_one_result(self):
        self.tells(("(k := keep((1 to 3)))", "out([ask(k), (5 to 6)])", "out(ask(k))"), "[1, 5]", "[1, 6]", "2", FAILED)
        self.gives("ask((keep(1) | keep((2 to 3))))", "1", "2")

    def test_once_failed_ever_failed(self):
        self.tells(("(k := keep((1 to 2)))", "every((1 to 2), ask(k))", "out(if(ask(k), 1, 'no'))",
                    "out(if(ask(k), 1, 'no'))", "out(ask((k | keep(7))))"), "no", "no", "7", FAILED)
        self.tells(("(l := [])", "(k := keep(take(l)))", "out(if(ask(k), 1, 'no'))", "put(l, 1)",
                    "out(if(ask(k), 1, 'no'))", "out(ask(anew(k)))"), "no", "no", "1", FAILED)

    def test_names_of_its_own(self):
        self.tells(("(x := 1)", "(k := keep((x := (x + (1 to 3)))))", "(x := 9)", "out([ask(k), x])",
                    "out([ask(k), x])"), "[2, 9]", "[3, 9]", FAILED)
        self.tells(("(k := keep((x := 5)))", "ask(k)", "out(x)"), "nothing", FAILED)
        self.tells(("(l := [1])", "(k := keep(put(l, 2)))", "ask(k)", "out(l)"), "[1, 2]", FAILED)

    def test_a_look_of_its_own(self):
        self.gives("scan('abc', [tab(2), ask(keep(here)), here])", "['ab', 0, 2]")
        self.gives("scan('abc', [tab(2), ask(keep(find(''))), ask(keep((move(1) | 'no')))])", "['ab', 0, 'no']")
        self.tells(("(k := keep(scan('abcd', (move(1) | move(2)))))", "out([ask(k), here])", "out([ask(k), here])"),
                   "['a', 0]", "['ab', 0]", FAILED)
        self.tells(("(k := keep((tab(0) | here)))", "out(scan('xy', [move(1), ask(k), ask(k), here]))"),
                   "['x', '', 0, 1]", FAILED)
        self.gives("scan('xy', [tab(1), ask(keep(scan('abc', tab(3)))), here])", "['x', 'abc', 1]")

    def test_anew(self):
        self.tells(("(x := 1)", "(k := keep((x to 9)))", "ask(k)", "ask(k)", "(q := anew(k))",
                    "out([ask(q), ask(k), ask(anew(q)), ask(q)])"), "[1, 3, 1, 2]", FAILED)
        self.tells(("(x := 1)", "(k := keep((x := (x + 1))))", "ask(k)", "(q := anew(k))", "out(ask(q))",
                    "out(ask(anew(q)))"), "2", "2", FAILED)
        self.tells(("(l := [])", "(k := keep(size(put(l, 1))))", "ask(k)", "out(ask(anew(k)))"), "2", FAILED)
        self.tells(("(k := keep(no(1)))", "ask(k)", "out(ask(anew(k)))"), FAILED)

    def test_anew_of_one_that_is_being_asked(self):
        self.tells(("(l := [])", "(k := keep((ask(anew(at(l, 0))) | 3)))", "put(l, k)", "out(ask(k))"), DEEP)
        self.tells(("(l := [1])", "(k := keep(if((size(l) < 4), do(put(l, 1), ask(anew(at(l, 0)))), size(l))))",
                    "place(l, 0, k)", "out(ask(k))"), "4", FAILED)

    def test_other_kinds(self):
        for other in ("nothing", "1", "'a'", "[]", "main"):
            self.is_wrong(f"ask({other})", KIND)
            self.is_wrong(f"anew({other})", KIND)

    def test_one_that_asks_itself(self):
        self.tells(("(l := [])", "(k := keep(ask(at(l, 0))))", "put(l, k)", "out(ask(k))"), BUSY, BUSY)
        self.tells(("(l := [])", "(k := keep((1 | ask(at(l, 0)))))", "put(l, k)", "out(ask(k))", "out(ask(k))"),
                   "1", BUSY)
        self.tells(("(l := [])", "put(l, keep(call(f, l)))", "out(ask(at(l, 0)))", "to f(l)", "out(ask(at(l, 0)))"),
                   BUSY, BUSY)
        self.tells(("(l := [])", "(k := keep(ask(keep(ask(at(l, 0))))))", "put(l, k)", "out(ask(k))"), BUSY)

    def test_kept_ones_within_one_another(self):
        self.tells(("(x := 1)", "(k := keep((ask(keep((x to 3))) & (4 to 5))))", "out([ask(k), ask(k)])",
                    "out(ask(k))"), "[4, 5]", FAILED)
        self.tells(("(k := keep(do((y := 2), keep((y to 3)))))", "(q := ask(k))", "out([ask(q), ask(q), y])"),
                   "[2, 3, nothing]", FAILED)

    def test_calls_within_one(self):
        self.tells(("(k := keep(call(f, 1)))", "out([ask(k), ask(k)])", "out(ask(k))", "out(ask(k))", "to f(a)",
                    "out((a to 3))"), "[1, 2]", "3", FAILED)
        self.tells(("(k := keep((call(f) | 5)))", "out([ask(k), ask(k)])", "to f()", "back(4)"), "[4, 5]", FAILED)
        self.tells(("(k := keep((call(f) | 5)))", "out([ask(k), ask(k)])", "to f()", "fall"), FAILED)


class Calls(Telling):
    def test_params_and_results(self):
        self.tells(("out(call(f, (1 to 2), 'x'))", "to f(a, b)", "out([a, b, c])", "out(b)"),
                   "[1, 'x', nothing]", "x", "[2, 'x', nothing]", "x", FAILED)
        self.tells(("out(call(f))", "to f()"), FAILED)
        self.tells(("out(call(f, 1, 2, 3))", "to f(a, b, c)", "back([c, b, a])"), "[3, 2, 1]", FAILED)

    def test_the_body_is_asked_one_by_one_and_given_up(self):
        self.tells(("out(call(f))", "to f()", "say((1 to 2))", "(say(3) & no(1))", "say(4)"), FAILED,
                   said=["1", "3", "4"])
        self.tells(("out(call(f))", "to f()", "(x <- 1)", "((y <- 2) & no(1))", "out([x, y])"),
                   "[1, nothing]", FAILED)

    def test_the_last_part_of_a_call_is_asked_again(self):
        self.tells(("out(call((f | g), (1 | 2)))", "to f(a)", "out([a, 'f'])", "to g(a)", "back([a, 'g'])"),
                   "[1, 'f']", "[2, 'f']", "[1, 'g']", "[2, 'g']", FAILED)

    def test_back(self):
        self.tells(("out((call(f) | 'z'))", "to f()", "back(say((1 to 2)))", "say(3)"), "1", "z", FAILED, said=["1"])
        self.tells(("out((call(f) | 'z'))", "to f()", "back(no(1))", "out(3)"), "z", FAILED, said=[])
        self.tells(("out((call(f) | 'z'))", "to f()", "(back(1) | out(2))"), "1", "z", FAILED)

    def test_out(self):
        self.tells(("out(call(f))", "to f()", "(out((1 to 2)) | say(5))", "out(3)"), "1", "2", "3", FAILED,
                   said=["5"])
        self.tells(("out(call(f))", "to f()", "((out(1) | 2) & out(3))"), "1", "3", FAILED)
        self.tells(("out(call(f))", "to f()", "every((1 to 3), out((7 to 8)))", "out(9)"),
                   "7", "8", "7", "8", "7", "8", "9", FAILED)
        self.tells(("out(call(f))", "to f()", "[(1 to 2), out('x'), say('never')]"), "x", "x", FAILED, said=[])
        self.tells(("out(call(f))", "to f()", "if(out(1), 2, out(3))", "first((out(4) | out(5)))", "no(out(6))"),
                   "1", "3", "4", "5", "6", FAILED)
        self.tells(("out(call(f))", "to f()", "out(out(1))", "(out((x := 2)) | out(x))"), "1", "2", "2", FAILED)

    def test_fall(self):
        self.tells(("out((call(f) | 'z'))", "to f()", "(out((1 to 2)) | fall)", "out(9)"), "1", "2", "z", FAILED)
        self.tells(("out(1)", "fall", "out(2)"), "1", FAILED)

    def test_main(self):
        self.tells("back((1 to 3))", "1", FAILED, FAILED)
        self.tells(("out(1)", "back(2)", "out(3)"), "1", "2", FAILED)
        self.tells("1", FAILED)
        self.tells((), FAILED, FAILED)
        self.tells(("out(1)", "out((2 to 3))"), "1", "2", "3", FAILED, FAILED)
        self.tells(("out(3)", "out(call(main))"), "3", "3", "3")

    def test_a_call_asked_again_goes_on_in_its_frame(self):
        self.tells(("out([call(f, 1), call(f, 5)])", "to f(a)", "out(a)", "(a := (a + 1))", "out(a)"),
                   "[1, 5]", "[1, 6]", "[2, 5]", "[2, 6]", FAILED)

    def test_lent_and_moved_within_a_call_that_ended_stays(self):
        self.tells(("(l := [1])", "out(scan('abc', [call(f), here]))", "to f()", "back(move(2))"), "['ab', 2]", FAILED)
        self.tells(("out(scan('abc', ((call(f) & no(1)) | here)))", "to f()", "back(move(2))"), "2", FAILED)
        self.tells(("out(scan('abc', (call(f) | here)))", "to f()", "(move(2) & fall)"), "2", FAILED)
        self.tells(("out(scan('abc', (call(f) | here)))", "to f()", "back((move(2) & no(1)))"), "0", FAILED)
        self.tells(("out(scan('abc', ((call(f) & no(1)) | here)))", "to f()", "out(move(2))"), "0", FAILED)
        self.tells(("out(scan('abc', (call(f) | here)))", "to f()", "move(2)"), "2", FAILED)

    def test_the_errors_and_their_order(self):
        procedures = ("to f(a)", "1", "to g()", "2")
        for other in ("nothing", "1", "'f'", "[f]", "keep(1)", "h"):
            self.tells((f"out(call({other}))",) + procedures, KIND, KIND)
        self.tells(("out(call(f))",) + procedures, COUNT, COUNT)
        self.tells(("out(call(f, 1, 2))",) + procedures, COUNT)
        self.tells(("out(call(g, 1))",) + procedures, COUNT)
        self.tells(("out(call(main, 1))",) + procedures, COUNT)
        self.tells(("out((say(1) & call(f)))", "say(2)") + procedures, COUNT, said=["1"])


class LooksOfCalls(Telling):
    def test_back_and_fall_out_of_scans(self):
        self.tells(("out(scan('abc', (tab(1) & [call(f), here])))", "to f()", "scan('xyz', (move(2) & back(here)))"),
                   "[2, 1]", FAILED)
        self.tells(("out(scan('abc', (tab(1) & [call(f), here])))", "to f()",
                    "scan('xyz', (move(2) & scan('u', back(move(1)))))"), "['u', 1]", FAILED)
        self.tells(("out(scan('abc', do(tab(1), (call(f) | here))))", "to f()",
                    "scan('xyz', (move(2) & scan('u', fall)))"), "1", FAILED)
        self.tells(("out(scan('abc', do(tab(1), (call(f) | here))))", "to f()",
                    "scan('xyz', (move(2) & back(no(1))))"), "1", FAILED)

    def test_a_scan_whose_first_part_is_being_asked_is_not_left(self):
        self.tells(("out(scan('abc', do(tab(1), (call(f) | here))))", "to f()", "scan((tab(3) & fall), 1)"), "3",
                   FAILED)
        self.tells(("out(scan('abc', (tab(1) & [call(f), here])))", "to f()", "scan(back(tab(3)), 1)"),
                   "['bc', 3]", FAILED)

    def test_a_scan_that_gave_is_not_left(self):
        self.tells(("out(scan('abc', (tab(1) & [call(f), here])))", "to f()", "(scan('xyz', move(2)) & back(tab(3)))"),
                   "['bc', 3]", FAILED)

    def test_places_moved_ahead_of_the_scan_stay(self):
        self.tells(("out(scan('abc', (call(f) | here)))", "to f()", "move(2)", "scan('xyz', (move(1) & fall))"),
                   "2", FAILED)

    def test_out_of_scans_and_asked_again(self):
        self.tells(("out(scan('abc', (tab(1) & [call(f), here])))", "to f()",
                    "scan('xyz', (move(2) & (out('p') | out(here))))"), "['p', 1]", "[2, 1]", FAILED)
        self.tells(("out(scan('abc', (tab(1) & [call(f), here])))", "to f()",
                    "scan('xyz', (move(1) & scan('uv', (out(move(1)) | out(here)))))"), "['u', 1]", "[0, 1]", FAILED)

    def test_asked_again_behind_an_out_without_a_scan(self):
        self.tells(("out(scan('abcd', (call(f) & do(move(1), no(1)))))", "to f()", "(tab(2) & (out(1) | say(here)))"),
                   FAILED, said=["2"])
        self.tells(("out(scan('abcd', do((call(f) & do(move(1), no(1))), here)))", "to f()", "out((1 | 2))"),
                   "0", FAILED)
        self.tells(("out(scan('abcd', do(tab(1), ((call(f) & do(move(1), no(1))) | here))))", "to f()",
                    "do(move(1), (out(1) | 5))"), "2", FAILED)

    def test_out_of_main_within_scans(self):
        self.tells(("scan('abc', (move(1) & (out(here) | out(here))))", "out(here)"), "1", "1", "0", FAILED)
        self.tells(("scan('abc', back(tab(2)))",), "ab", FAILED)

    def test_scans_around_the_call_are_not_those_of_this_call(self):
        self.tells(("scan('abc', (tab(1) & do(call(f), out(here))))", "to f()", "(tab(2) & fall)"), "2", FAILED)
        self.tells(("scan('abc', (tab(1) & do(call(f), out(here))))", "to f()", "scan('x', (tab(1) & fall))"),
                   "1", FAILED)


class Depth(Telling):
    """12 calls and asks may be within one another, main's call counted."""

    def test_calls(self):
        lines = ("out(call(f, {}))", "to f(n)", "if((0 < n), out(call(f, (n - 1))), out('end'))")
        self.tells((lines[0].format(10),) + lines[1:], "end", FAILED)
        self.tells((lines[0].format(11),) + lines[1:], DEEP, DEEP)
        self.tells("out(call(main))", DEEP, DEEP)

    def test_asks(self):
        lines = ("(n := 0)", "(l := [0])", "(k := keep(if((at(l, 0) < {}), do(place(l, 0, (at(l, 0) + 1)), "
                 "ask(anew(at(l, 1)))), 'end')))", "put(l, k)", "out(ask(k))")
        for many, answer in ((10, "end"), (11, DEEP)):
            self.tells([line.replace("{}", str(many)) for line in lines], answer)

    def test_calls_and_asks_by_turns(self):
        lines = ("out(call(f, {}))", "to f(n)", "if((0 < n), out(ask(keep(call(f, (n - 1))))), out('end'))")
        self.tells((lines[0].format(5),) + lines[1:], "end", FAILED)
        self.tells((lines[0].format(6),) + lines[1:], DEEP, DEEP)

    def test_other_errors_go_ahead(self):
        lines = ("out(call(f, 10))", "to f(n)", "if((0 < n), out(call(f, (n - 1))), out({}))")
        for expression, answer in (("call(1)", KIND), ("call(f)", COUNT), ("ask(1)", KIND), ("call(f, 1)", DEEP),
                                   ("ask(keep(1))", DEEP), ("anew(keep(1))", "kept")):
            self.tells(lines[:-1] + (lines[-1].format(expression),), answer)

    def test_busy_goes_ahead_of_deep(self):
        self.tells(("(l := [])", "put(l, keep(call(f, 9, l)))", "out(ask(at(l, 0)))", "to f(n, l)",
                    "if((0 < n), out(call(f, (n - 1), l)), out(ask(at(l, 0))))"), BUSY, BUSY)

    def test_a_kept_one_that_failed_is_deep_as_well(self):
        self.tells(("(k := keep(no(1)))", "ask(k)", "out(call(f, 10, k))", "to f(n, k)",
                    "if((0 < n), out(call(f, (n - 1), k)), out(ask(k)))"), DEEP)

    def test_the_parts_of_a_call_do_not_count_it(self):
        lines = ("out(call(f, 10))", "to f(n)", "if((0 < n), out(call(g, call(f, (n - 1)))), out('end'))", "to g(a)",
                 "out(a)")
        self.tells(lines, "end", FAILED)

    def test_a_call_that_gave_does_not_count_until_it_is_asked_again(self):
        lines = ("out([call(f, 9), call(g, 10)])", "to f(n)", "if((0 < n), out(call(f, (n - 1))), out({}))", "to g(n)",
                 "if((0 < n), out(call(g, (n - 1))), out('g'))")
        self.tells(lines[:2] + (lines[2].format("(1 | 2)"),) + lines[3:], "[1, 'g']", "[2, 'g']", FAILED)
        self.tells(lines[:2] + (lines[2].format("(1 | call(g, 1))"),) + lines[3:], "[1, 'g']", DEEP)
        self.tells(lines[:2] + (lines[2].format("(1 | call(g, 0))"),) + lines[3:], "[1, 'g']", "['g', 'g']", FAILED)

    def test_a_call_asked_again_at_that_depth(self):
        self.tells(("out(call(f, 10))", "to f(n)", "if((0 < n), out(call(f, (n - 1))), out((1 to 3)))"),
                   "1", "2", "3", FAILED)

    def test_a_kept_one_asked_again_deeper_is_asked_where_an_ask_begins(self):
        # Its call counted 3 when it was begun; it counts 12 when it goes on, and calls once more.
        lines = ("(k := keep(call(g)))", "out(ask(k))", "out(call(f, {}, k))", "to f(n, k)",
                 "if((0 < n), out(call(f, (n - 1), k)), out(ask(k)))", "to g()", "(out(1) | out(call(h)))", "to h()",
                 "out('h')")
        for many, answer in ((7, "h"), (8, DEEP)):
            self.tells([line.replace("{}", str(many)) for line in lines], "1", answer)


class Wrong(Telling):
    def test_the_run_is_over_with_what_was_said(self):
        self.tells(("say(1)", "out(2)", "out((say(3) + 'a'))", "say(4)"), "2", KIND, KIND, KIND, said=["1", "3"])
        self.tells(("(k := keep((say(1) + 'a')))", "(ask(k) | say(2))"), KIND, KIND, said=["1"])
        self.tells(("(call(f) | say(2))", "to f()", "no(put(1, 1))"), KIND, said=[])


if __name__ == "__main__":
    unittest.main()
