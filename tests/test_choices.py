"""[20]: expressions that are not strict."""

import unittest

from tests.telling import FAILED, KIND, Telling


class Simple(Telling):
    def test_or(self):
        self.gives("((1 to 2) | (5 to 6))", "1", "2", "5", "6")
        self.gives("(no(1) | 2)", "2")
        self.gives("(1 | no(1))", "1")
        self.gives("(no(1) | no(2))")
        self.gives("(say(1) | say(2))", "1", "2", said=["1", "2"])

    def test_and(self):
        self.gives("((1 to 2) & (5 to 6))", "5", "6", "5", "6")
        self.gives("((x := (1 to 3)) & (x to 3))", "1", "2", "3", "2", "3", "3")
        self.gives("(no(1) & say(1))", said=[])
        self.gives("(say((1 to 2)) & no(1))", said=["1", "2"])
        self.gives("(say((1 to 2)) & say((3 to 4)))", "3", "4", "3", "4", said=["1", "3", "4", "2", "3", "4"])

    def test_first(self):
        self.gives("first((1 to 3))", "1")
        self.gives("first(no(1))")
        self.gives("first((no(1) | (4 to 5)))", "4")
        self.gives("[(1 to 2), first((3 to 4))]", "[1, 3]", "[2, 3]")
        self.gives("[first((1 to 2)), (3 to 4)]", "[1, 3]", "[1, 4]")

    def test_no(self):
        self.gives("no(1)")
        self.gives("no(no(1))", "nothing")
        self.gives("[no((2 < 1)), (3 to 4)]", "[nothing, 3]", "[nothing, 4]")
        self.tells(("no((x := 1))", "out(x)"), "1", FAILED)
        self.gives("(no(((x <- 1) & no(1))) & [x])", "[nothing]")

    def test_most(self):
        self.gives("most(2, (1 to 5))", "1", "2")
        self.gives("most(1, (1 to 5))", "1")
        self.gives("most(20, (1 to 25))", *[str(n) for n in range(1, 21)])
        self.gives("most(20, (1 to 3))", "1", "2", "3")
        self.gives("most(2, no(1))")

    def test_most_of_none_does_not_ask(self):
        self.gives("most(0, say(1))", said=[])
        self.gives("(most(0, 1) | 2)", "2")

    def test_most_gives_its_part_up_with_the_last_result(self):
        self.gives("(most(2, say((1 to 5))) & no(1))", said=["1", "2"])
        self.gives("((most(2, (x <- (1 to 5))) & no(1)) | x)", "2")
        self.gives("((most(3, (x <- (1 to 2))) & no(1)) | x)", "nothing")

    def test_most_asked_anew_counts_anew(self):
        self.gives("((1 to 2) & most(2, (5 to 9)))", "5", "6", "5", "6")
        self.gives("most(3, ((1 to 2) & most(2, (5 to 9))))", "5", "6", "5")
        self.gives("most(2, again(most(1, (1 to 2))))", "1", "1")


class Conditions(Telling):
    def test_if(self):
        self.gives("if((1 < 2), (3 to 4), 5)", "3", "4")
        self.gives("if((2 < 1), 3, (5 to 6))", "5", "6")
        self.gives("if((1 to 3), say('x'), 5)", "x", said=["x"])
        self.gives("if(say((1 to 3)), no(1), 5)", said=["1"])
        self.gives("if(no(1), 1, no(2))")
        self.gives("if(((x <- 1) & no(1)), 1, [x])", "[nothing]")
        self.gives("(if((x <- 1), no(1), 2) | x)", "1")

    def test_while(self):
        self.tells(("(n := 0)", "while(((n := (n + 1)) < 4), say(n))", "out(n)"), "4", FAILED, said=["1", "2", "3"])
        self.gives("while(no(1), say(1))", said=[])
        self.gives("(while((1 < 0), 1) | 2)", "2")
        self.tells(("(l := [1, 2])", "while((take(l) | no(1)), no(1))", "out(size(l))"), "0", FAILED)
        self.tells(("(l := [1, 2, 3])", "while(take(l), (say(size(l)) & no(1)))", "out(l)"), "[]", FAILED,
                   said=["2", "1", "0"])

    def test_the_parts_of_while_are_given_up_each_round(self):
        self.tells(("(n := 0)", "while((say((1 to 2)) & ((n := (n + 1)) < 3)), say((7 to 8)))", "out(n)"), "4", FAILED,
                   said=["1", "7", "1", "7", "1", "2"])

    def test_every(self):
        self.gives("every(say((1 to 3)), say('x'))", said=["1", "x", "2", "x", "3", "x"])
        self.gives("every((1 to 3), (say((5 to 6)) & no(1)))", said=["5", "6"] * 3)
        self.gives("every((1 to 3), say((5 to 6)))", said=["5"] * 3)
        self.gives("every(no(1), say(1))", said=[])
        self.gives("(every((1 to 2), 3) | 4)", "4")
        self.tells(("every((x <- (1 to 3)), (y := x))", "out([x, y])"), "[nothing, 3]", FAILED)

    def test_do(self):
        self.gives("do(say((1 to 2)), say((3 to 4)), (5 to 6))", "5", "6", said=["1", "3"])
        self.gives("do((1 to 2))", "1", "2")
        self.gives("do(no(1), say(1), no(1), 7)", "7", said=["1"])
        self.gives("do(1, no(1))")
        self.gives("do((x <- 1), ((x <- 2) & no(1)), [x])", "[1]")
        self.gives("do(1, 2, 3, 4, 5, (6 to 7))", "6", "7")


class Again(Telling):
    def test_the_part_is_asked_anew_when_it_fails(self):
        self.tells("out(again((1 to 2)))", "1", "2", "1", "2", "1")
        self.tells("out(again(5))", "5", "5", "5", said=[])

    def test_what_never_gives(self):
        self.gives("again(no(1))")
        self.gives("again((say(1) & no(1)))", said=["1"])

    def test_it_ends_when_the_part_gives_none_more(self):
        self.tells(("(l := [1, 2, 3])", "out(again(take(l)))"), "3", "2", "1", FAILED)
        self.tells(("(n := 0)", "out(again(((n := (n + 1)) < 4)))", "out(n)"), "4", "4", "4", "4", FAILED)

    def test_asked_anew_it_begins_anew(self):
        self.gives("((1 to 2) & most(3, again((5 to 6))))", "5", "6", "5", "5", "6", "5")
        self.gives("most(3, ((1 to 2) & most(2, again(5))))", "5", "5", "5")

    def test_within_another_one(self):
        self.tells(("(l := [1, 2])", "out(again(again(take(l))))"), "2", "1", FAILED)
        self.gives("most(4, again(most(3, again(say(1)))))", "1", "1", "1", "1", said=["1"] * 4)

    def test_names_lent_in_it(self):
        self.gives("most(3, again(((x <- 1) | x)))", "1", "nothing", "1")


class Scans(Telling):
    def test_results_of_the_second_part_for_each_text(self):
        self.gives("scan(('ab' | 'c'), move((0 to 2)))", "", "a", "ab", "", "c")
        self.gives("scan('ab', no(1))")
        self.gives("scan(no(1), 1)")

    def test_a_text_is_wanted(self):
        for other in ("nothing", "1", "['a']", "main", "keep('a')"):
            self.is_wrong(f"scan({other}, 1)", KIND)

    def test_while_a_result_is_out_the_look_is_what_it_was(self):
        self.gives("[scan('abc', do(move(2), here)), here, find('')]", "[2, 0, 0]")
        self.gives("scan('abcd', (move(1) & [scan('xyz', (move(2) & here)), here]))", "[2, 1]")

    def test_asked_again_the_look_is_what_it_was_at_the_result(self):
        self.gives("[scan('abc', (move(1) & (here | (here | here)))), here]", "[1, 0]", "[1, 0]", "[1, 0]")
        self.gives("scan('abcdef', [scan('xy', (here | do(move(1), (here | here)))), do(move(2), here)])",
                   "[0, 2]", "[1, 2]", "[1, 2]")

    def test_the_look_ahead_is_that_of_the_first_parts_result(self):
        # What was moved while the result was out does not stay when the second part goes on.
        self.gives("scan('abcdef', do((scan('xy', (1 | 2)) & do(move(1), no(1))), here))", "0")
        self.gives("scan('abcdef', (scan('xy', (1 | 2)) & do(move(1), here)))", "1", "1")
        self.gives("scan('abcdef', (scan(move((1 to 2)), 5) & here))", "1", "2")

    def test_when_the_second_part_fails_the_look_is_what_it_was_ahead(self):
        self.gives("(scan('abc', (first(move(2)) & no(1))) | here)", "0")
        self.gives("scan('abc', (scan('xyz', (first(move(2)) & no(1))) | here))", "0")
        self.gives("scan('abc', do(move(1), (scan('xyz', do(move(2), no(1))) | here)))", "1")
        self.gives("scan('abc', (scan((1 & (move(1) . 'q')), no(1)) | here))", "0")

    def test_given_up_within(self):
        self.gives("scan('abc', do(move(1), first(scan('xyz', (move(2) & (here | 7)))), here))", "1")
        self.gives("scan('abc', [first(scan('xyz', move(2))), here])", "['xy', 0]")
        self.gives("scan('abc', if(scan('xyz', move(2)), here, 9))", "0")

    def test_the_first_part_goes_over_the_look_ahead(self):
        self.gives("scan('abc', scan(move((1 to 2)), [here, tab(size('a')), here]))", "[0, 'a', 1]", "[0, 'a', 1]")


class Keeps(Telling):
    def test_one_result_and_nothing_is_asked(self):
        self.gives("keep(say(1))", "kept", said=[])
        self.gives("((1 to 2) & keep(1))", "kept", "kept")


if __name__ == "__main__":
    unittest.main()
