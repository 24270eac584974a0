"""[14] and [15]: worths, when they are the same, and their words; [24]: what they are told as."""

import unittest

from tests.telling import FAILED, GREAT, Telling

PROCEDURES = ("to f()", "to g(a)", "1")


class Words(Telling):
    def test_each_kind(self):
        self.gives("nothing", "nothing")
        self.gives("0", "0")
        self.gives("-7", "-7")
        self.gives("(999 * -999)", "-998001")
        self.gives("''", "")
        self.gives("'so it is'", "so it is")
        self.gives("[]", "[]")
        self.gives("keep(1)", "kept")
        self.tells(("out(f)",) + PROCEDURES, "to f", FAILED)
        self.tells(("out(main)",), "to main", FAILED)

    def test_items(self):
        self.tells(("out([1, 'a', nothing, f])",) + PROCEDURES, "[1, 'a', nothing, to f]", FAILED)
        self.gives("[keep(1), -5, '', [1]]", "[kept, -5, '', [..]]")
        self.gives("[[], [[]], [nothing]]", "[[], [..], [..]]")

    def test_words_that_are_said_are_the_same(self):
        self.gives("say(['a', [], [1]])", "['a', [], [..]]", said=["['a', [], [..]]"])
        self.gives("say('a')", "a", said=["a"])

    def test_lists_that_hold_themselves(self):
        self.tells(("(l := [1])", "out(put(l, l))"), "[1, [..]]", FAILED)
        self.tells(("(l := [])", "(m := [l])", "put(l, m)", "out([l, m])", "out(l)"), "[[..], [..]]", "[[..]]", FAILED)
        self.is_told(("(l := [1])", "out(put(l, l))"), ("list", [1, ("list", 2)]))


class Told(Telling):
    def test_each_kind(self):
        self.is_told("out(nothing)", None)
        self.is_told("out(-12)", -12)
        self.is_told("out('ab')", "ab")
        self.is_told("out([])", ("list", []))
        self.is_told("out(main)", ("to", "main"))
        self.is_told("out(keep(1))", ("kept",))

    def test_items(self):
        self.is_told("out([nothing, 0, 'x', []])", ("list", [None, 0, "x", ("list", 0)]))
        self.is_told("out([[1, 2, [3]], main, keep(1)])", ("list", [("list", 3), ("to", "main"), ("kept",)]))


class Same(Telling):
    def same(self, first, second, ahead=()):
        self.tells(tuple(ahead) + (f"out(if(({first} is {second}), 1, 0))",), "1", FAILED)
        self.tells(tuple(ahead) + (f"out(if(({first} isnt {second}), 1, 0))",), "0", FAILED)

    def other(self, first, second, ahead=()):
        self.tells(tuple(ahead) + (f"out(if(({first} is {second}), 1, 0))",), "0", FAILED)
        self.tells(tuple(ahead) + (f"out(if(({first} isnt {second}), 1, 0))",), "1", FAILED)

    def test_nothing_integers_texts(self):
        self.same("nothing", "nothing")
        self.same("nothing", "x")
        self.same("4", "(2 + 2)")
        self.same("'ab'", "('a' . 'b')")
        self.same("''", "''")
        for first, second in (("1", "2"), ("1", "'1'"), ("'a'", "'b'"), ("''", "nothing"), ("0", "nothing"),
                              ("0", "''"), ("nothing", "[]"), ("1", "[1]"), ("'to main'", "main")):
            self.other(first, second)
            self.other(second, first)

    def test_procedures(self):
        lines = ("(x := f)", "out([if((x is f), 1, 0), if((f is f), 1, 0), if((f is g), 1, 0), if((f isnt g), 1, 0)])")
        self.tells(lines + PROCEDURES, "[1, 1, 0, 1]", FAILED)

    def test_things_are_the_same_as_themselves_alone(self):
        self.other("[]", "[]")
        self.other("[1]", "[1]")
        self.other("keep(1)", "keep(1)")
        ahead = ("(l := [1])", "(m := l)", "(k := keep(1))", "(q := k)")
        self.same("l", "m", ahead)
        self.same("k", "q", ahead)
        self.same("at([l], 0)", "put(m, 2)", ahead)
        self.other("k", "anew(k)", ahead)
        self.other("l", "[1]", ahead)
        self.other("l", "k", ahead)

    def test_things_are_shared(self):
        self.tells(("(l := [1])", "(m := l)", "put(m, 2)", "out(l)"), "[1, 2]", FAILED)
        self.tells(("(k := keep((1 to 3)))", "(q := k)", "ask(k)", "out(ask(q))"), "2", FAILED)
        self.tells(("(l := [])", "call(f, l)", "out(l)", "to f(a)", "put(a, 1)"), "[1]", FAILED)


class Sizes(Telling):
    def test_twenty_items_and_one_more(self):
        self.tells(("(l := [])", "every((1 to 20), put(l, 'x'))", "out(size(l))"), "20", FAILED)
        self.tells(("(l := [])", "every((1 to 21), put(l, 'x'))", "out(size(l))"), GREAT, GREAT)
        self.tells(("(l := [])", "every((1 to 20), put(l, 7))", "take(l)", "put(l, 8)", "out(at(l, 19))", "put(l, 9)"),
                   "8", GREAT)


if __name__ == "__main__":
    unittest.main()
