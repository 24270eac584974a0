"""[7] to [9]: expressions, programs and the ways into expressions; [2], [3] and [6] for them."""

import copy
import inspect
import unittest

from triedagain import programs
from triedagain.errors import NoExpression, NoName, NoPlace, NoProgram, TriedError
from triedagain.programs import Program, is_expression, part_at, walk, with_part
from tests.grammar import WORDS
from tests.samples import A, B, C, PROGRAMS, SAMPLES, is_frozen, listed, mixed, raised, wrapped

NO_EXPRESSIONS = [
    None, True, 0, 1, "", "nothing", [], (), {}, {"nothing": 1}, ("",), ("none",), (("nothing",),), (["nothing"],),
    ({},), (None,), (1,), ("nothing", 1), ("Nothing",), ("isnt",), ("list",), ("or",), ["nothing", None],
]
OP_WORDS = ("+", "-", "*", "/", "mod", ".")
TEST_WORDS = ("<", "<=", "=", "<>", "is", "isnt")
NOT_ROWS = [None, True, 0, "", "ab", {}, {0: A}, A]
# For each expression the places of its parts, counted from the word at 0; a row is told as its own place.
PARTS = {
    "nothing": [], "number": [], "text": [], "name": [], "list": [1], "op": [2, 3], "test": [2, 3], "or": [1, 2],
    "and": [1, 2], "first": [1], "no": [1], "if": [1, 2, 3], "most": [2], "again": [1], "to": [1, 2], "items": [1],
    "give": [2], "lend": [2], "every": [1, 2], "while": [1, 2], "do": [1], "call": [1, 2], "back": [1], "out": [1],
    "fall": [], "keep": [1], "ask": [1], "anew": [1], "scan": [1, 2], "move": [1], "tab": [1], "find": [1],
    "reach": [1], "many": [1], "match": [1], "here": [], "put": [1, 2], "take": [1], "size": [1], "at": [1, 2],
    "place": [1, 2, 3], "say": [1],
}
ROWS = {"list": (1, 0, 4), "do": (1, 1, 6), "call": (2, 0, 3)}


def changed(row, at, item):
    """The tuple with another item at this place."""
    return tuple(row[:at]) + (item,) + tuple(row[at + 1:])


class Expressions(unittest.TestCase):
    def right(self, value):
        self.assertIs(True, is_expression(value), value)

    def wrong(self, value):
        self.assertIs(False, is_expression(value), value)

    def test_the_samples_have_all_words(self):
        self.assertEqual(sorted(PARTS), sorted({expression[0] for expression, _ in SAMPLES}))

    def test_each_kind_as_tuples_and_as_lists(self):
        for expression, _ in SAMPLES:
            self.right(expression)
            self.right(listed(expression))
            self.right(mixed(expression))
            self.right(mixed(expression, False))

    def test_other_values(self):
        for value in NO_EXPRESSIONS:
            self.wrong(value)
        self.wrong(Program([("main", (), ())]))
        self.wrong((Program([("main", (), ())]),))
        self.assertIs(True, is_expression(value=("nothing",)))

    def test_more_or_fewer_items(self):
        for expression, _ in SAMPLES:
            self.wrong(expression + (A,))
            self.wrong(expression + ((),))
            self.wrong(expression[1:])
            self.wrong(expression[:-1])
            self.wrong((expression,))

    def test_each_part_must_be_an_expression(self):
        for expression, _ in SAMPLES:
            for at in PARTS[expression[0]]:
                for value in NO_EXPRESSIONS:
                    if at == ROWS.get(expression[0], (0,))[0]:
                        self.wrong(changed(expression, at, (A, value)))
                    else:
                        self.wrong(changed(expression, at, value))

    def test_numbers_of_items_in_rows(self):
        for word, (at, least, most) in ROWS.items():
            begun = (word, A) if word == "call" else (word,)
            for many in range(9):
                is_right = least <= many <= most
                self.assertIs(is_right, is_expression(begun + ((A,) * many,)), (word, many))
                self.assertIs(is_right, is_expression(begun + ([A] * many,)), (word, many))
            for value in NOT_ROWS:
                self.wrong(begun + (value,))

    def test_numbers(self):
        for number in (-999, -998, -1, 0, 1, 998, 999):
            self.right(("number", number))
        for number in (-1000, 1000, 10 ** 30, -10 ** 30, True, False, None, "1", [1], {}):
            self.wrong(("number", number))

    def test_the_number_of_most(self):
        for number in range(21):
            self.right(("most", number, A))
        for number in (-1, 21, 999, True, False, None, "1", [1], A):
            self.wrong(("most", number, A))

    def test_texts(self):
        for text in ("", " ", "~", "a" * 20, "\"\\", "Ab 9{}[]", "nothing"):
            self.right(("text", text))
        for text in ("a" * 21, "a" * 5000, "'", "it's", "%", "9 %", "\n", "a\nb", "\t", "\x7f", "\x1f", "\u00e9", 0,
                     None, True, ["a"]):
            self.wrong(("text", text))

    def test_names(self):
        places = (lambda x: ("name", x), lambda x: ("give", x, A), lambda x: ("lend", x, A))
        for place in places:
            for name in ("a", "z", "main", "abcdefgh", "lista", "lis", "or", "and", "give", "lend", "op", "name"):
                self.right(place(name))
            for name in ("", "abcdefghi", "A", "aB", "a1", "a b", "a_b", "\u00e9", "a\n", 1, None, True, ["a"], A):
                self.wrong(place(name))
            for name in WORDS:
                self.wrong(place(name))

    def test_words_of_op_and_test(self):
        for word in OP_WORDS:
            self.right(("op", word, A, B))
            self.wrong(("test", word, A, B))
        for word in TEST_WORDS:
            self.right(("test", word, A, B))
            self.wrong(("op", word, A, B))
        for word in ("", "%", "|", "&", "to", ">", ">=", "==", " + ", None, 0, True, ["+"], ("+",), {}):
            self.wrong(("op", word, A, B))
            self.wrong(("test", word, A, B))

    def test_eight_levels_and_nine(self):
        self.right(wrapped(("nothing",), 7))
        self.wrong(wrapped(("nothing",), 8))
        self.right(wrapped(("list", ()), 7))
        self.right(wrapped(("list", (A,)), 6))
        self.wrong(wrapped(("list", (A,)), 7))
        for expression, _ in SAMPLES[:-2]:
            deep = 2 if PARTS[expression[0]] and expression != ("list", ()) else 1
            self.right(wrapped(expression, 8 - deep, "again"))
            self.wrong(wrapped(expression, 9 - deep, "again"))
            for at in PARTS[expression[0]]:
                is_row = at == ROWS.get(expression[0], (0,))[0]
                for times in (6, 7):
                    inner = wrapped(("here",), times)
                    whole = changed(expression, at, (A, inner) if is_row else inner)
                    self.assertIs(times == 6, is_expression(whole), whole)

    def test_any_depth_does_no_harm(self):
        deep = wrapped(("nothing",), 100000)
        self.wrong(deep)
        self.wrong(("list", deep))
        self.wrong((deep,))
        rows = []
        for _ in range(100000):
            rows = [rows]
        self.wrong(rows)
        self.wrong(("list", rows))

    def test_leaving_within_a_keep(self):
        for leaving in (("back", A), ("out", A), ("fall",)):
            self.right(leaving)
            self.right(("do", (("keep", A), leaving)))
            self.right(("out", ("keep", A)))
            self.wrong(("keep", leaving))
            self.wrong(["keep", list(leaving)])
            for times in range(1, 5):
                self.right(wrapped(leaving, times))
                self.wrong(("keep", wrapped(leaving, times)))
                self.wrong(wrapped(("keep", wrapped(leaving, times)), 1))
            self.wrong(("keep", ("keep", ("first", leaving))))
            self.wrong(("keep", ("do", (A, A, leaving))))
            self.wrong(("keep", ("call", A, (A, leaving))))
            self.wrong(("keep", ("list", (leaving,))))
            self.wrong(("keep", ("if", A, B, leaving)))

    def test_nothing_is_changed(self):
        for expression, _ in SAMPLES:
            value = listed(expression)
            is_expression(value)
            self.assertEqual(listed(expression), value)


class Procedures(unittest.TestCase):
    def wrong(self, index, part, procedures):
        error = raised(self, NoProgram, Program, procedures)
        self.assertEqual((index, part), (error.index, error.part), procedures)

    def test_names_and_procedures(self):
        for procedures, _ in PROGRAMS:
            for given in (procedures, tuple(procedures), listed(procedures), mixed(procedures)):
                program = Program(given)
                self.assertEqual([procedure[0] for procedure in procedures], program.names())
                for procedure in procedures:
                    found = program.procedure(procedure[0])
                    self.assertEqual(procedure, found)
                    self.assertTrue(is_frozen(found))
                    self.assertEqual(procedure, program.procedure(name=procedure[0]))

    def test_no_name(self):
        program = Program(procedures=PROGRAMS[2][0])
        for name in ("", "b", "mai", "main ", "a", None, True, 0, [], ["main"], ("main",), {}, program):
            self.assertEqual(name, raised(self, NoName, program.procedure, name).name)

    def test_no_row_of_one_to_six(self):
        for procedures in (None, True, 0, "", "main", {}, {"main": ()}, [], (), [("main", (), ())] * 7, A * 4):
            self.wrong(-1, -1, procedures)
        self.wrong(-1, -1, Program([("main", (), ())]))
        names = ("main", "b", "c", "d", "e", "f")
        program = Program([(name, (), ()) for name in names])
        self.assertEqual(list(names), program.names())

    def test_items_that_are_no_procedures(self):
        for item in (None, True, 0, "abc", {}, [], ("f",), ("f", ()), ("f", (), (), ()), {0: "f", 1: (), 2: ()},
                     ("", (), ()), ("F", (), ()), ("list", (), ()), ("abcdefghi", (), ()), (None, (), ()),
                     (["f"], (), ()), ("f", None, ()), ("f", "ab", ()), ("f", {}, ()), ("f", (), None),
                     ("f", (), "ab"), ("f", (), {}), ("f", (), A * 5), ("f", ("a", "b", "c", "d"), ()),
                     ("f", ("a", "a"), ()), ("f", ("a", "b", "a"), ()), ("f", ("list",), ()), ("f", ("",), ()),
                     ("f", (1,), ()), ("f", (["a"],), ()), ("f", (None,), ()), ("f", ("abcdefghi",), ()),
                     ("f", (), (A,) * 9), ("f", (), [None] * 9)):
            self.wrong(0, -1, [item])
            self.wrong(1, -1, [("main", (), ()), item])
            self.wrong(2, -1, [("main", (), ()), ("g", (), ()), item, ("main", (), ())])

    def test_numbers_of_params_and_expressions(self):
        program = Program([("main", [], [A] * 8), ("f", ["a", "b", "c"], [])])
        self.assertEqual(("f", ("a", "b", "c"), ()), program.procedure("f"))
        self.assertEqual(("main", (), (A,) * 8), program.procedure("main"))
        self.wrong(0, -1, [("main", [], [A] * 9)])

    def test_names_of_procedures_may_be_params_and_the_other_way_round(self):
        self.assertEqual(["main", "f"], Program([("main", (), ()), ("f", ("f", "main"), (A,))]).names())

    def test_the_first_is_main_without_params(self):
        self.wrong(0, -1, [("f", (), ())])
        self.wrong(0, -1, [("f", (), ()), ("main", (), ())])
        self.wrong(0, -1, [("main", ("a",), ())])
        self.wrong(0, -1, [("main", ("a",), (None,))])
        self.wrong(0, -1, [("f", (), (None,))])

    def test_unlike_names(self):
        self.wrong(1, -1, [("main", (), ()), ("main", (), ())])
        self.wrong(1, -1, [("main", (), ()), ("main", ("a",), (None,))])
        self.wrong(3, -1, [("main", (), ()), ("f", (), ()), ("g", (), ()), ("f", ("x",), ()), None])

    def test_the_first_wrong_expression(self):
        for value in NO_EXPRESSIONS + [wrapped(A, 8), ("keep", ("fall",)), ("number", 1000)]:
            self.wrong(0, 0, [("main", (), (value,))])
            self.wrong(0, 2, [("main", (), (A, B, value, value))])
            self.wrong(1, 1, [("main", (), (A,)), ["f", ["a"], [B, value]], None])

    def test_two_hundred_and_one_expressions(self):
        forty = ("list", (("do", (A,) * 6),) * 3 + (("list", (A, B, ("list", (A, A, A, ("list", (A,) * 4))))),))
        many = sum(1 for _ in walk(forty))
        self.assertEqual(34, many)
        full = [("main", (), (forty,) * 5), ("f", (), (("list", (A,) * 4),) * 5 + (("first", ("first", A)), A, A))]
        self.assertEqual(["main", "f", "g"], Program(full + [("g", (), ())]).names())
        self.wrong(2, 0, full + [("g", (), (A,))])
        self.wrong(2, 0, full + [("g", (), (A, None))])
        self.wrong(2, -1, full + [("g", ("a", "a"), (A,))])
        self.wrong(3, 0, full + [("g", (), ()), ("h", (), (B,)), None])
        self.wrong(0, 5, [("main", (), (forty,) * 6)])
        self.wrong(0, 5, [("main", (), (forty,) * 6 + (None,))])
        self.wrong(0, 5, [("main", (), (forty,) * 6), None])
        self.wrong(0, 4, [("main", (), (forty,) * 4 + (None, forty, forty))])
        self.wrong(1, 0, [("main", (), (forty,) * 5), ("f", (), (forty, A, A))])
        exact = [("main", (), (forty,) * 5 + (("list", (A,) * 3), ("list", (A,) * 4), ("do", (A,) * 6)))]
        self.wrong(1, 7, exact + [("f", (), (("list", (A,)),) * 6 + (("first", A), A))])
        self.assertEqual(2, len(Program(exact + [("f", (), (("list", (A,)),) * 6 + (("first", A),))]).names()))

    def test_a_great_expression(self):
        great = ("do", (("do", (("do", (("do", (("do", (A,) * 6),) * 6),) * 6),) * 6),) * 6)
        self.assertIs(True, is_expression(great))
        self.wrong(1, 1, [("main", (), ()), ("f", (), (A, great))])

    def test_equal(self):
        for procedures, _ in PROGRAMS:
            program = Program(procedures)
            self.assertIs(True, program == Program(listed(procedures)))
            self.assertIs(True, program == Program(mixed(procedures)))
            self.assertIs(False, program != Program(listed(procedures)))
            for other in (procedures, tuple(procedures), listed(procedures), None, 0, "", program.names(), object()):
                self.assertIs(False, program == other)
                self.assertIs(False, other == program)
                self.assertIs(True, program != other)
        main, f, g = ("main", (), (A,)), ("f", (), ()), ("g", (), ())
        for one, other in (([main, f, g], [main, g, f]), ([main], [main, f]), ([main], [("main", (), (B,))]),
                           ([main], [("main", (), ())]), ([main, f], [main, ("f", ("a",), ())])):
            self.assertIs(False, Program(one) == Program(other))

    def test_equal_to_what_is_equal_to_all(self):
        class Any:
            def __eq__(self, other):
                return True

        self.assertIs(False, Program([("main", (), ())]) == Any())

    def test_copies(self):
        given = [["main", [], [["list", [["number", 1]]]]], ["f", ["a"], []]]
        before = copy.deepcopy(given)
        program = Program(given)
        self.assertEqual(before, given)
        given[0][2][0][1][0][1] = 2
        given[0][2].append(["fall"])
        given[1][1].append("b")
        given.append(["g", [], []])
        self.assertEqual(Program(before), program)
        program.names().append("g")
        self.assertEqual(["main", "f"], program.names())
        self.assertEqual(("main", (), (("list", (("number", 1),)),)), program.procedure("main"))

    def test_what_raises_changes_nothing(self):
        given = [["main", [], [A, None]]]
        self.wrong(0, 1, given)
        self.assertEqual([["main", [], [A, None]]], given)


class Ways(unittest.TestCase):
    def test_walk_yields_parts_in_order(self):
        self.assertTrue(inspect.isgenerator(walk(A)))
        self.assertEqual([((), A)], list(walk(A)))
        call = ("call", A, (B, ("list", (C, A))))
        self.assertEqual(
            [((), call), ((0,), A), ((1,), B), ((2,), ("list", (C, A))), ((2, 0), C), ((2, 1), A)],
            list(walk(expression=call)))
        whole = ("if", ("give", "x", B), ("most", 3, ("or", A, C)), ("op", "+", A, B))
        self.assertEqual(
            [((), whole), ((0,), whole[1]), ((0, 0), B), ((1,), whole[2]), ((1, 0), ("or", A, C)), ((1, 0, 0), A),
             ((1, 0, 1), C), ((2,), whole[3]), ((2, 0), A), ((2, 1), B)],
            list(walk(whole)))

    def test_walk_for_each_kind(self):
        for expression, _ in SAMPLES[:-2]:
            below = []
            for at in PARTS[expression[0]]:
                is_row = at == ROWS.get(expression[0], (0,))[0]
                below.extend(expression[at] if is_row else [expression[at]])
            wanted = [((), expression)] + [((index,), part) for index, part in enumerate(below)]
            for given in (expression, listed(expression), mixed(expression)):
                found = list(walk(given))
                self.assertEqual(wanted, found)
                self.assertTrue(is_frozen(tuple(found)))
                self.assertTrue(all(isinstance(pair, tuple) and isinstance(pair[0], tuple) for pair in found))

    def test_walk_is_not_changed_behind_its_first(self):
        given = ["list", [["number", 1], ["number", 2]]]
        walked = walk(given)
        next(walked)
        given[1][1][1] = 3
        given[1].append(["number", 4])
        self.assertEqual([((0,), ("number", 1)), ((1,), ("number", 2))], list(walked))

    def test_walk_raises(self):
        for value in NO_EXPRESSIONS + [wrapped(A, 8), ("keep", ("fall",))]:
            raised(self, NoExpression, lambda: next(walk(value)))

    def test_walk_of_the_deepest(self):
        found = list(walk(wrapped(A, 7)))
        self.assertEqual([(0,) * n for n in range(8)], [path for path, _ in found])

    def test_part_at_and_with_part_where_walk_leads(self):
        for expression, _ in SAMPLES:
            for path, part in walk(expression):
                self.assertEqual(part, part_at(expression, path))
                self.assertEqual(part, part_at(expression=listed(expression), path=list(path)))
                self.assertEqual(expression, with_part(listed(expression), list(path), listed(part)))
                built = with_part(expression=expression, path=path, part=["list", [["here"]]])
                self.assertTrue(is_frozen(built))
                self.assertEqual(("list", (("here",),)), part_at(built, path))
                for other, there in walk(expression):
                    if path[:len(other)] != other and other[:len(path)] != path:
                        self.assertEqual(there, part_at(built, other))

    def test_with_part_examples(self):
        call = ("call", A, (B, C))
        self.assertEqual(("call", ("fall",), (B, C)), with_part(call, (0,), ("fall",)))
        self.assertEqual(("call", A, (("fall",), C)), with_part(call, [1], ["fall"]))
        self.assertEqual(("call", A, (B, ("fall",))), with_part(call, (2,), ("fall",)))
        self.assertEqual(("most", 4, B), with_part(["most", 4, A], (0,), B))
        self.assertEqual(("give", "x", C), with_part(("give", "x", A), (0,), C))
        self.assertEqual(B, with_part(A, (), B))
        self.assertEqual(B, with_part(listed(call), [], list(B)))

    def test_no_place(self):
        call = ("call", A, (B, ("list", ())))
        for path in (None, True, 0, "", "0", {}, (3,), (-1,), (True,), (False,), (None,), ("0",), ([0],), ((0,),),
                     (0, 0), (2, 0), [1, 1], (0, True), (10 ** 20,), ["x"], [3]):
            for work in (lambda: part_at(call, path), lambda: with_part(call, path, A),
                         lambda: with_part(call, path, None)):
                error = raised(self, NoPlace, work)
                self.assertEqual(repr(path), repr(error.path))

    def test_no_place_at_each_kind(self):
        for expression, _ in SAMPLES:
            many = sum(1 for path, _ in walk(expression) if len(path) == 1)
            raised(self, NoPlace, part_at, expression, (many,))
            raised(self, NoPlace, with_part, expression, [many], A)

    def test_the_order_of_errors(self):
        for value in NO_EXPRESSIONS + [wrapped(A, 8)]:
            raised(self, NoExpression, part_at, value, ())
            raised(self, NoExpression, part_at, value, None)
            raised(self, NoExpression, with_part, value, None, None)
            raised(self, NoExpression, with_part, value, (), A)
            raised(self, NoPlace, with_part, A, (0,), value)
            raised(self, NoExpression, with_part, A, (), value)
            raised(self, NoExpression, with_part, ("first", A), (0,), value)

    def test_the_whole_would_be_none(self):
        deep = wrapped(A, 7)
        path = (0,) * 7
        self.assertEqual(wrapped(B, 7), with_part(deep, path, B))
        raised(self, NoExpression, with_part, deep, path, ("first", B))
        raised(self, NoExpression, with_part, ("first", A), (0,), deep)
        for leaving in (("back", A), ("out", A), ("fall",)):
            raised(self, NoExpression, with_part, ("keep", A), (0,), leaving)
            raised(self, NoExpression, with_part, ("do", (B, ("keep", ("no", A)))), (1, 0, 0), ("first", leaving))
            self.assertEqual(leaving, with_part(("keep", A), (), leaving))

    def test_nothing_is_changed(self):
        given, path, part = listed(("call", A, (B, C))), [1], ["list", [["here"]]]
        with_part(given, path, part)
        built = with_part(given, path, part)
        part[1].append(["fall"])
        self.assertEqual((listed(("call", A, (B, C))), [1]), (given, path))
        self.assertEqual(("call", A, (("list", (("here",),)), C)), built)
        found = part_at(given, path)
        given[2][0][1] = 5
        self.assertEqual(B, found)


class Interface(unittest.TestCase):
    def test_arguments(self):
        for name, wanted in (("is_expression", ["value"]), ("walk", ["expression"]),
                             ("part_at", ["expression", "path"]), ("with_part", ["expression", "path", "part"])):
            work = getattr(programs, name)
            self.assertEqual(wanted, list(inspect.signature(work).parameters))
            self.assertEqual("triedagain.programs", work.__module__)
        self.assertEqual("triedagain.programs", Program.__module__)
        for name in ("names", "procedure", "__eq__"):
            self.assertIn(name, vars(Program))

    def test_any_value_raises_only_what_the_document_names(self):
        values = NO_EXPRESSIONS + NOT_ROWS + [[[[[[[[[[[]]]]]]]]]], ("list", [[[[]]]]), {"a": [("b",)]}]
        for value in values:
            for work in (lambda: Program(value), lambda: list(walk(value)), lambda: part_at(value, value),
                         lambda: part_at(A, value), lambda: with_part(A, value, value),
                         lambda: Program([value]), lambda: Program([("main", value, value)])):
                try:
                    work()
                except TriedError:
                    pass


if __name__ == "__main__":
    unittest.main()
