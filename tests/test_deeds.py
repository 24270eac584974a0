"""[17] to [19]: strict expressions and their deeds."""

import unittest

from tests.telling import BILLION, FAILED, GREAT, KIND, MILLION, SIXTY, TWENTY, Telling


class Order(Telling):
    def test_parts_from_left_to_right(self):
        self.gives("[say(1), say('a'), say(2)]", "[1, 'a', 2]", said=["1", "a", "2"])
        self.gives("(say(1) + (say(2) * say(3)))", "7", said=["1", "2", "3"])

    def test_the_last_part_is_asked_again_first(self):
        self.gives("[say((1 to 2)), say(items('ab'))]", "[1, 'a']", "[1, 'b']", "[2, 'a']", "[2, 'b']",
                   said=["1", "a", "b", "2", "a", "b"])

    def test_what_fails_has_the_one_ahead_asked_again(self):
        self.gives("[say((1 to 2)), say('x'), no(1)]", said=["1", "x", "2", "x"])
        self.gives("[(1 to 3), ((2 < 1) | (3 to 4)), no(no((1 < 2)))]", "[1, 3, nothing]", "[1, 4, nothing]",
                   "[2, 3, nothing]", "[2, 4, nothing]", "[3, 3, nothing]", "[3, 4, nothing]")
        self.gives("[no(1), say(1)]", said=[])

    def test_parts_behind_are_asked_anew(self):
        self.gives("[(x := (1 to 3)), (x to 3)]", "[1, 1]", "[1, 2]", "[1, 3]", "[2, 2]", "[2, 3]", "[3, 3]")

    def test_a_part_that_fails_when_it_is_asked_again(self):
        self.gives("[(1 to 2), (5 | 6), ('a' | 'b')]", "[1, 5, 'a']", "[1, 5, 'b']", "[1, 6, 'a']", "[1, 6, 'b']",
                   "[2, 5, 'a']", "[2, 5, 'b']", "[2, 6, 'a']", "[2, 6, 'b']")

    def test_the_row_of_the_deed_goes_ahead_of_the_parts(self):
        self.gives("((1 to 2) to (2 to 3))", "1", "2", "1", "2", "3", "2", "2", "3")
        self.gives("items(('ab' | 'c'))", "a", "b", "c")

    def test_a_deed_without_results_has_the_last_part_asked_again(self):
        self.gives("(6 / (-1 to 2))", "-6", "6", "3")
        self.gives("((5 | 1) < (3 | 7))", "7", "3", "7")
        self.gives("at('abc', (-2 to 4))", "a", "b", "c")
        self.gives("((3 | 1) to (2 | 0))", "1", "2")

    def test_without_parts_there_is_one_result(self):
        for expression, words in (("nothing", "nothing"), ("5", "5"), ("'t'", "t"), ("x", "nothing"), ("here", "0"),
                                  ("[]", "[]")):
            self.gives(expression, words)


class Names(Telling):
    def test_a_name_has_the_worth_that_it_has_then(self):
        self.gives("[x, (x := 1), x, (x := (x + 1))]", "[nothing, 1, 1, 2]")
        self.gives("[(x := 1), (x & (x := 5)), x]", "[1, 5, 5]")

    def test_procedures_that_no_name_hides(self):
        self.tells(("out([main, f, (f := 1), f])", "to f()"), "[to main, to f, 1, 1]", FAILED)
        self.tells(("out(call(f, 3))", "to f(f)", "out(f)"), "3", FAILED)
        self.tells(("out(call(f, nothing))", "to f(f)", "out(f)"), "nothing", FAILED)
        self.tells(("(k := keep(f))", "(f := 1)", "out([ask(k), ask(keep(f))])", "to f()"), "[to f, 1]", FAILED)

    def test_give_stays(self):
        self.tells(("(x := 1)", "((x := (2 | 3)) & no(1))", "out(x)"), "3", FAILED)
        self.gives("(((x := 1) & no(1)) | x)", "1")

    def test_lend_gives_back_when_it_is_asked_again(self):
        self.tells(("(x := 1)", "((x <- (2 | 3)) & no(say(x)))", "out(x)"), "1", FAILED, said=["2", "3"])
        self.gives("(((x <- 1) & no(1)) | x)", "nothing")
        self.tells(("(x := 1)", "out([(x <- (2 | x)), x])", "out(x)"), "[2, 2]", "[1, 1]", "1", FAILED)

    def test_lend_ahead_of_give(self):
        self.tells(("out((((f <- 1) & no(1)) | f))", "to f()"), "to f", FAILED)
        self.gives("((x <- 1) | x)", "1", "nothing")
        self.gives("(((x <- 1) & (x := 2)) | x)", "2", "nothing")
        self.gives("(((x <- 1) & ((x <- 2) & no(say(x)))) | [x])", "[nothing]", said=["2"])

    def test_lent_and_given_up_stays(self):
        self.tells(("first((x <- 1))", "out(x)"), "1", FAILED)
        self.tells(("(x <- 1)", "out(x)"), "1", FAILED)
        self.gives("((most(1, (x <- (1 | 2))) & no(1)) | x)", "1")
        self.gives("(if((x <- 4), x, 0) | x)", "4", "4")
        self.gives("((do((x <- 4), x) & no(1)) | x)", "4")

    def test_lent_in_a_frame_of_its_own(self):
        self.tells(("(x := 1)", "out([call(f), x])", "out(x)", "to f()", "out((x <- (2 | 3)))"),
                   "[2, 1]", "[3, 1]", "1", FAILED)
        self.tells(("(x := 1)", "(k := keep(((x <- 2) | x)))", "out([ask(k), x, ask(k), x])"), "[2, 1, 1, 1]", FAILED)


class Numbers(Telling):
    def test_op(self):
        for expression, words in (("(2 + 3)", "5"), ("(2 - 3)", "-1"), ("(-2 * 3)", "-6"), ("(7 / 2)", "3"),
                                  ("(7 mod 2)", "1"), ("(0 - 0)", "0")):
            self.gives(expression, words)

    def test_quotients_are_rounded_down(self):
        for a, b, quotient, rest in ((7, 2, 3, 1), (-7, 2, -4, 1), (7, -2, -4, -1), (-7, -2, 3, -1), (6, -3, -2, 0),
                                     (-6, 3, -2, 0), (1, -999, -1, -998), (0, -5, 0, 0), (-1, 2, -1, 1)):
            self.gives(f"[({a} / {b}), ({a} mod {b})]", f"[{quotient}, {rest}]")

    def test_zero_fails_as_the_second_one(self):
        self.gives("(5 / 0)")
        self.gives("(5 mod 0)")
        self.gives("(0 / 5)", "0")
        self.gives("(0 mod 5)", "0")
        self.is_wrong("('a' / 0)", KIND)
        self.is_wrong("(nothing mod 0)", KIND)

    def test_the_greatest_and_one_beyond(self):
        self.gives(BILLION, "1000000000")
        self.gives(f"(0 - {BILLION})", "-1000000000")
        self.gives(f"({BILLION} / -1)", "-1000000000")
        self.gives(f"(({BILLION} - 1) + 1)", "1000000000")
        self.is_wrong(f"({BILLION} + 1)", GREAT)
        self.is_wrong(f"({BILLION} - -1)", GREAT)
        self.is_wrong(f"((0 - {BILLION}) - 1)", GREAT)
        self.is_wrong(f"((0 - {BILLION}) + -1)", GREAT)
        self.is_wrong(f"({MILLION} * {MILLION})", GREAT)
        self.is_wrong(f"({MILLION} * (0 - {MILLION}))", GREAT)

    def test_numbers_of_other_kinds(self):
        for word in ("+", "-", "*", "/", "mod"):
            for other in ("nothing", "'1'", "[1]", "main", "keep(1)"):
                self.is_wrong(f"({other} {word} 1)", KIND)
                self.is_wrong(f"(1 {word} {other})", KIND)

    def test_texts_put_together(self):
        self.gives("('ab' . 'c')", "abc")
        self.gives("('' . '')", "")
        self.gives(SIXTY, TWENTY * 3)
        self.gives(f"({SIXTY} . '')", TWENTY * 3)
        self.is_wrong(f"({SIXTY} . 'a')", GREAT)
        self.is_wrong(f"('a' . {SIXTY})", GREAT)
        for other in ("nothing", "1", "['a']", "main", "keep('a')"):
            self.is_wrong(f"({other} . 'a')", KIND)
            self.is_wrong(f"({SIXTY} . {other})", KIND)


class Tests(Telling):
    def test_integers(self):
        for word, found in (("<", "1 0 0"), ("<=", "1 1 0"), ("=", "0 1 0"), ("<>", "1 0 1")):
            for (a, b), holds in zip(((-2, 1), (1, 1), (2, -1)), found.split()):
                self.gives(f"({a} {word} {b})", *([str(b)] if holds == "1" else []))

    def test_texts_by_their_characters(self):
        pairs = (("a", "b", "<"), ("", "a", "<"), ("Z", "a", "<"), ("ab", "b", "<"), ("a", "ab", "<"), ("9", "A", "<"),
                 (" ", "~", "<"), ("ab", "ab", "="), ("", "", "="), ("10", "9", "<"))
        for a, b, sign in pairs:
            for word in ("<", "<=", "=", "<>"):
                holds = {"<": sign == "<", "<=": True, "=": sign == "=", "<>": sign == "<"}[word]
                self.gives(f"('{a}' {word} '{b}')", *([b] if holds else []))
            self.gives(f"('{b}' < '{a}')")
            self.gives(f"('{b}' <= '{a}')", *([a] if sign == "=" else []))

    def test_other_kinds(self):
        for word in ("<", "<=", "=", "<>"):
            for a, b in (("1", "'1'"), ("'a'", "1"), ("nothing", "1"), ("nothing", "nothing"), ("[]", "[]"),
                         ("main", "main"), ("keep(1)", "1"), ("'a'", "nothing"), ("['a']", "'a'")):
                self.is_wrong(f"({a} {word} {b})", KIND)

    def test_the_second_worth_is_the_result(self):
        self.tells(("(l := [1])", "put((l is l), 2)", "out(l)"), "[1, 2]", FAILED)
        self.gives("(1 isnt 'a')", "a")
        self.gives("(1 is 'a')")
        self.gives("(1 < (2 < 3))", "3")


class Lists(Telling):
    def test_list_makes_a_new_one_each_time(self):
        self.tells(("(l := [])", "every((1 to 3), put(l, [1]))", "put(at(l, 0), 2)", "out([at(l, 0), size(at(l, 1))])",
                    "out(at(l, 0))"), "[[..], 1]", "[1, 2]", FAILED)

    def test_put_and_take(self):
        self.tells(("(l := [])", "out([put(l, 1), size(l)])", "out(put(put(l, 'b'), l))", "out(take(l))",
                    "out([take(l), take(l), size(l)])", "take(l)", "out(l)", "out(take(l))"),
                   "[[..], 1]", "[1, 'b', [..]]", "[1, 'b']", "['b', 1, 0]", "[]", FAILED)

    def test_take_of_an_empty_list_fails(self):
        self.gives("take([])")
        self.gives("take(([] | [5]))", "5")

    def test_size(self):
        self.gives("[size([]), size([1, 2]), size(''), size('abc')]", "[0, 2, 0, 3]")

    def test_at(self):
        self.gives("[at([5, 6], 0), at([5, 6], 1), at('ab', 0), at('ab', 1)]", "[5, 6, 'a', 'b']")
        for expression in ("at([5, 6], 2)", "at([5, 6], -1)", "at('ab', 2)", "at('ab', -1)", "at('', 0)", "at([], 0)"):
            self.gives(expression)

    def test_place(self):
        self.tells(("(l := [1, 2])", "out(place(l, 1, 'x'))", "out(place(l, 0, l))", "place(l, 2, 9)",
                    "place(l, -1, 9)", "out(l)"), "[1, 'x']", "[[..], 'x']", "[[..], 'x']", FAILED)
        self.gives("place([1], 1, 2)")
        self.gives("place([1, 2], (-1 to 2), 0)", "[0, 2]", "[0, 0]")

    def test_other_kinds(self):
        for other in ("nothing", "1", "'a'", "main", "keep([])"):
            self.is_wrong(f"put({other}, 1)", KIND)
            self.is_wrong(f"take({other})", KIND)
            self.is_wrong(f"place({other}, 0, 1)", KIND)
        for other in ("nothing", "1", "main", "keep('a')"):
            self.is_wrong(f"size({other})", KIND)
            self.is_wrong(f"at({other}, 0)", KIND)
        for other in ("nothing", "'0'", "[0]", "main", "keep(0)"):
            self.is_wrong(f"at([1], {other})", KIND)
            self.is_wrong(f"at('a', {other})", KIND)
            self.is_wrong(f"place([1], {other}, 1)", KIND)

    def test_changes_stay_when_they_are_asked_again(self):
        self.tells(("(l := [])", "(put(l, (1 to 3)) & no(1))", "out(l)"), "[1, 2, 3]", FAILED)
        self.tells(("(l := [1, 2])", "(take(l) & no(1))", "out(l)"), "[1]", FAILED)
        self.tells(("(l := [1, 2])", "(place(l, 0, 5) & no(1))", "out(l)"), "[5, 2]", FAILED)

    def test_say(self):
        self.gives("say((1 to 2))", "1", "2", said=["1", "2"])
        self.tells(("(l := [])", "put(say(l), 1)", "say(l)", "out(l)"), "[1]", FAILED, said=["[]", "[1]"])


class Looks(Telling):
    def scanned(self, expression, *answers, text="abcab"):
        self.gives(f"scan('{text}', {expression})", *answers)

    def test_at_first_the_look_is_empty(self):
        self.gives("here", "0")
        self.gives("tab(0)", "")
        self.gives("move(0)", "")
        self.gives("tab(1)")
        self.gives("move(1)")
        self.gives("find('')", "0")
        self.gives("match('')", "0")

    def test_move(self):
        self.scanned("[move(2), here, move(-1), here]", "['ab', 2, 'b', 1]")
        self.scanned("[move(5), here, move(-5), here]", "['abcab', 5, 'abcab', 0]")
        self.scanned("[move(0), here]", "['', 0]")
        self.scanned("move(6)")
        self.scanned("move(-1)")
        self.scanned("(move(3) & move(3))")
        self.scanned("(move(3) & move(-4))")
        self.gives("scan('abc', move(" + MILLION + "))")

    def test_tab(self):
        self.scanned("[tab(2), here, tab(1), here]", "['ab', 2, 'b', 1]")
        self.scanned("[tab(5), here, tab(0), here]", "['abcab', 5, 'abcab', 0]")
        self.scanned("tab(6)")
        self.scanned("tab(-1)")
        self.scanned("[tab(3), tab(3)]", "['abc', '']")

    def test_asked_again_the_place_is_what_it_was(self):
        self.scanned("[here, move((0 to 2)), here]", "[0, '', 0]", "[0, 'a', 1]", "[0, 'ab', 2]")
        self.scanned("((tab(3) & no(1)) | here)", "0")
        self.scanned("(move(1) & ((tab((2 to 3)) & no(1)) | here))", "1")
        self.scanned("(((move(1) & move(2)) & no(1)) | here)", "0")

    def test_moved_and_given_up_stays(self):
        self.scanned("do(move(2), here)", "2")
        self.scanned("((first(move(2)) & no(1)) | here)", "2")
        self.scanned("if(tab(4), here, 9)", "4")
        self.scanned("do(no(move(2)), here)", "2")

    def test_many(self):
        self.scanned("[many('ab'), here]", "[2, 0]")
        self.scanned("many('cba')", "5")
        self.scanned("many('b')")
        self.scanned("many('')")
        self.scanned("(tab(5) & many('ab'))")
        self.scanned("(tab(3) & many('ba'))", "5")

    def test_match(self):
        self.scanned("[match('abc'), here]", "[3, 0]")
        self.scanned("match('b')")
        self.scanned("match('abcabc')")
        self.scanned("match('')", "0")
        self.scanned("(tab(5) & match(''))", "5")
        self.scanned("(tab(5) & match('a'))")
        self.scanned("(tab(3) & match('ab'))", "5")

    def test_find(self):
        self.scanned("find('ab')", "0", "3")
        self.scanned("(tab(1) & find('ab'))", "3")
        self.scanned("find('x')")
        self.scanned("find('abcabc')")
        self.scanned("find('')", "0", "1", "2", "3", "4", "5")
        self.scanned("(tab(4) & find(''))", "4", "5")
        self.scanned("(tab(5) & find('b'))")
        self.scanned("find('aa')", "0", "1", text="aaa")

    def test_reach(self):
        self.scanned("reach('bx')", "1", "4")
        self.scanned("(tab(2) & reach('ca'))", "2", "3")
        self.scanned("reach('')")
        self.scanned("(tab(5) & reach('abc'))")
        self.scanned("reach('aba')", "0", "1", "3", "4")

    def test_find_and_reach_go_over_the_look_of_their_beginning(self):
        self.scanned("[find('b'), do(tab(5), here)]", "[1, 5]", "[4, 5]")
        self.scanned("[reach('c'), do(tab(0), here)]", "[2, 0]")
        self.scanned("(find('b') & scan('xyz', here))", "0", "0")

    def test_other_kinds(self):
        for other in ("nothing", "'1'", "[1]", "main", "keep(1)"):
            self.is_wrong(f"move({other})", KIND)
            self.is_wrong(f"tab({other})", KIND)
        for other in ("nothing", "1", "['a']", "main", "keep('a')"):
            for word in ("many", "match", "find", "reach"):
                self.is_wrong(f"{word}({other})", KIND)


class Rows(Telling):
    def test_to(self):
        self.gives("(1 to 3)", "1", "2", "3")
        self.gives("(-1 to 1)", "-1", "0", "1")
        self.gives("(2 to 2)", "2")
        self.gives("(3 to 2)")
        self.gives("(3 to -3)")
        self.tells(f"out((0 to {BILLION}))", "0", "1", "2")
        self.gives(f"(({BILLION} - 1) to {BILLION})", "999999999", "1000000000")

    def test_items_of_texts(self):
        self.gives("items('aba')", "a", "b", "a")
        self.gives("items('')")

    def test_items_of_lists(self):
        self.gives("items([1, 'b', []])", "1", "b", "[]")
        self.gives("items([])")

    def test_a_list_that_grows(self):
        self.tells(("(l := [1])", "every(items(l), if((size(l) < 4), put(l, (size(l) + 1)), 0))", "out(l)"),
                   "[1, 2, 3, 4]", FAILED)
        self.tells(("(l := [1])", "out(items(l))", "out('never')"), "1", "never")
        self.tells(("(l := [1])", "(x := keep(items(l)))", "out(ask(x))", "put(l, 2)", "out(ask(x))", "out(ask(x))",
                    "put(l, 3)", "out(ask(x))"), "1", "2", FAILED)

    def test_a_list_that_shrinks(self):
        self.tells(("(l := [1, 2, 3, 4])", "every(items(l), do(say(take(l))))", "out(l)"), "[1, 2]", FAILED,
                   said=["4", "3"])
        self.tells(("(l := [1, 2])", "out([items(l), place(l, 1, 9)])"), "[1, [..]]", "[9, [..]]", FAILED)
        self.tells(("(l := [1, 2, 3])", "every(items(l), do(say(take(l)), put(l, 7)))", "out(l)"), "[1, 2, 7]", FAILED,
                   said=["3", "7", "7"])

    def test_other_kinds(self):
        for other in ("nothing", "1", "main", "keep(1)"):
            self.is_wrong(f"items({other})", KIND)
        for other in ("nothing", "'1'", "[1]", "main"):
            self.is_wrong(f"(1 to {other})", KIND)
            self.is_wrong(f"({other} to 1)", KIND)


if __name__ == "__main__":
    unittest.main()
