"""[27]: codes, and what is none."""

import unittest

from triedagain import codes
from triedagain.codes import Code
from triedagain.errors import NoCode, NoName
from triedagain.programs import Program
from tests.samples import listed, mixed, raised

ONE = Program([("main", (), ())])
TWO = Program([("main", (), ()), ("f", ("a",), (("number", 1),))])
DEEDS = ("+", "-", "*", "/", "mod", ".", "<", "<=", "=", "<>", "is", "isnt", "put", "take", "size", "at", "place",
         "say",
         "here", "move", "tab", "many", "match", "anew")
ROWS = ("to", "items", "find", "reach")
BARE = ("drop", "fail", "open", "shut", "counter", "mark", "back", "out", "fall", "yield", "ask", "scan", "leave")
OTHERS = (None, True, False, 1.5, 10 ** 30, -1, "", "x", "1", [], (), {}, [0], (0,), {0: 0}, ("worth", 1), "+x", ["+"])


class Rows(unittest.TestCase):
    def right(self, *rows):
        for given in (rows, listed(rows), mixed(rows), mixed(rows, False)):
            code = Code(ONE, {"main": 0}, given)
            self.assertEqual(list(rows), code.rows())
            self.assertTrue(all(isinstance(row, tuple) for row in code.rows()))
            self.assertEqual(len(rows), len(code))

    def wrong(self, index, *rows):
        for given in (rows, listed(rows)):
            self.assertEqual(index, raised(self, NoCode, Code, ONE, {"main": 0}, given).index, rows)

    def test_worths(self):
        for worth in (None, 0, 1, -999, 999, "", "a" * 20, "so it is", "{}\"\\~"):
            self.right(("worth", worth))
        for worth in (True, False, 1000, -1000, 10 ** 30, "a" * 21, "it's", "a\nb", "9 %", "\u00e9", [], (), {}, [1],
                      ("nothing",)):
            self.wrong(0, ("worth", worth))

    def test_names(self):
        for word in ("name", "give", "lend"):
            for name in ("x", "main", "abcdefgh", "lista", "or"):
                self.right((word, name))
            for name in ("", "abcdefghi", "A", "a1", "list", "to", 0, None, True, ["x"], ("name", "x"), {}):
                self.wrong(0, (word, name))

    def test_deeds_and_rows(self):
        for word in DEEDS:
            self.right(("deed", word))
            self.wrong(0, ("rows", word))
        for word in ROWS:
            self.right(("rows", word))
            self.wrong(0, ("deed", word))
        for word in OTHERS + ("list", "call", "ask", "scan", "give", "many ", "op", "keep"):
            self.wrong(0, ("deed", word))
            self.wrong(0, ("rows", word))

    def test_numbers(self):
        for word, least, greatest in (("list", 0, 4), ("call", 0, 3), ("tick", 1, 20)):
            for number in range(-3, 25):
                if least <= number <= greatest:
                    self.right((word, number))
                else:
                    self.wrong(0, (word, number))
            for other in (None, True, False, "1", [1], (), {}):
                self.wrong(0, (word, other))

    def test_places(self):
        for word in ("jump", "retry", "any", "keep"):
            for many in (1, 2, 5):
                fails = (("fail",),) * (many - 1)
                for place in range(many):
                    self.right(*fails, (word, place))
                for place in (-1, many, many + 1, 10 ** 30, None, True, False, "0", [0], (), {}):
                    self.wrong(many - 1, *fails, (word, place))

    def test_bare_ones(self):
        for word in BARE:
            self.right((word,))
            for other in OTHERS:
                self.wrong(0, (word, other))
            self.wrong(0, (word, 0, 0))

    def test_lengths(self):
        for word, thing in (("worth", 1), ("name", "x"), ("give", "x"), ("lend", "x"), ("deed", "+"), ("list", 1),
                            ("rows", "to"), ("jump", 0), ("retry", 0), ("tick", 1), ("any", 0), ("call", 1),
                            ("keep", 0)):
            self.right((word, thing))
            self.wrong(0, (word,))
            self.wrong(0, (word, thing, thing))
            self.wrong(0, (word, thing, None))

    def test_what_is_no_instruction(self):
        for item in (None, True, 0, "", "fail", "drop", [], (), {}, {"fail": 1}, (None,), (0,), (("fail",),),
                     (["fail"],),
                     ("Fail",), ("fail ",), ("number", 1), ("nothing",), ("text", "a"), ("test", "<"), ("op", "+"), ONE,
                     Code(ONE, {"main": 0}, [("fail",)]), (ONE,)):
            self.wrong(0, item)
            self.wrong(1, ("fail",), item)
            self.wrong(1, ("fail",), item, ("fail",), item)

    def test_from_1_to_9000(self):
        self.right(*[("jump", 8999)] * 9000)
        self.wrong(-1, *[("fail",)] * 9001)
        for rows in (None, True, 0, 1, "", "ab", {}, {0: ("fail",)}, [], (), ONE):
            self.assertEqual(-1, raised(self, NoCode, Code, ONE, {"main": 0}, rows).index)


class Entries(unittest.TestCase):
    def wrong(self, entries, rows=(("fail",), ("fail",)), program=TWO, index=-2):
        self.assertEqual(index, raised(self, NoCode, Code, program, entries, rows).index)

    def test_right_ones(self):
        for main in (0, 1):
            for other in (0, 1):
                code = Code(TWO, {"f": other, "main": main}, [("fail",), ("fail",)])
                self.assertEqual((main, other), (code.entry("main"), code.entry("f")))
        self.assertEqual(1, Code(program=ONE, entries={"main": 1}, rows=[("fail",)] * 2).entry(name="main"))

    def test_what_is_no_dict_of_just_the_names(self):
        for entries in (None, True, 0, "", "main", [], (), [("main", 0), ("f", 0)], ["main", "f"], {}, {"main": 0},
                        {"f": 0}, {"main": 0, "f": 0, "g": 0}, {"main": 0, "g": 0}, {"main": 0, None: 0},
                        {"main": 0, ("f",): 0}, {0: "main", 1: "f"}, {"main": 0, "F": 0}, TWO):
            self.wrong(entries)

    def test_what_is_no_place(self):
        for place in (-1, 2, 3, 10 ** 30, None, True, False, "0", [0], (0,), {}):
            self.wrong({"main": 0, "f": place})
            self.wrong({"main": place, "f": 0})

    def test_the_order_of_errors(self):
        self.wrong(None, rows=[], index=-1)
        self.wrong({}, rows=None, index=-1)
        self.wrong({"main": 0}, rows=[("no",)])
        self.wrong({"main": 1, "f": 0}, rows=[("no",)])
        self.wrong({"main": 0, "f": 0}, rows=[("no",)], index=0)
        self.wrong({"main": 0, "f": 0}, rows=[("fail",), ("jump", 2)], index=1)


class Codes(unittest.TestCase):
    def code(self, program=TWO, main=0, other=1, last=("worth", 1)):
        return Code(program, {"main": main, "f": other}, [("name", "x"), ["jump", 0], last])

    def test_what_it_tells(self):
        code = self.code()
        self.assertEqual([("name", "x"), ("jump", 0), ("worth", 1)], code.rows())
        self.assertEqual(3, len(code))
        self.assertEqual(TWO, code.program())
        self.assertEqual((0, 1), (code.entry("main"), code.entry("f")))

    def test_other_names(self):
        code = self.code()
        for name in ("", "a", "g", "Main", "main ", None, True, 0, 1, [], ["main"], ("main",), {}, {"main": 0}, TWO):
            error = raised(self, NoName, code.entry, name)
            self.assertEqual(name, error.name)

    def test_it_keeps_copies(self):
        rows, entries = [["name", "x"], ["fail"]], {"main": 0}
        code = Code(ONE, entries, rows)
        rows[0][1] = "y"
        rows.append(["out"])
        entries["main"] = 1
        self.assertEqual([("name", "x"), ("fail",)], code.rows())
        self.assertEqual(0, code.entry("main"))
        code.rows().append(("out",))
        self.assertEqual(2, len(code))
        self.assertEqual(2, len(code.rows()))

    def test_equal_ones(self):
        code = self.code()
        self.assertTrue(code == self.code())
        self.assertFalse(code != self.code())
        same = Program([["main", [], []], ["f", ["a"], [["number", 1]]]])
        self.assertTrue(code == self.code(program=same))
        other = Program([("main", (), ()), ("f", ("a",), (("number", 2),))])
        for unlike in (self.code(main=1), self.code(other=0), self.code(last=("worth", 2)), self.code(program=other),
                       self.code(last=("worth", None)), self.code(last=("fail",))):
            self.assertFalse(code == unlike)
            self.assertTrue(code != unlike)
        for thing in (None, 0, 3, "", [], code.rows(), {"main": 0}, TWO):
            self.assertFalse(code == thing)
            self.assertTrue(code != thing)

    def test_where_they_are_defined(self):
        self.assertEqual("triedagain.codes", Code.__module__)
        for name in ("program", "entry", "rows", "__len__", "__eq__"):
            self.assertIn(name, vars(Code))
        self.assertIs(Code, codes.Code)


if __name__ == "__main__":
    unittest.main()
