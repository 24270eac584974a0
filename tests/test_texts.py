"""[10] to [13]: the texts of expressions and programs, written and read; [2], [3] and [6] for them."""

import inspect
import unittest

from triedagain import texts
from triedagain.errors import NoExpression, NoProgram, NoText
from triedagain.programs import Program, is_expression
from triedagain.texts import expression_text, program_text, read_expression, read_program
from tests.grammar import WORDS, fault, place_of
from tests.samples import A, B, C, PROGRAMS, SAMPLES, is_frozen, listed, mixed, raised, wrapped

# The signs that are put into texts: each one that stands in some text, some that stand in none, and some that
# stand in texts in quotes alone.
SIGNS = "abcdefghiklmnoprstuwxz0123456789-+*/.<>=|&:,'()[] \nA\"_#{!%~\t\u00e9"
NO_STRINGS = [None, True, False, 0, -1, [], (), {}, ["x"], ("nothing",), {"x": 1}, [["to main()"]]]


def refused(case, work, text):
    """The line and column at which a text is refused, None if it is not refused so."""
    try:
        work(text)
    except NoText as error:
        case.assertIs(NoText, error.__class__)
        return (error.line, error.column)
    except (NoExpression, NoProgram):
        return None
    return None


def altered(text, signs):
    """The text cut off behind each sign, and with one sign put in, left out or exchanged."""
    found = [text[:at] for at in range(len(text) + 1)]
    for at in range(len(text) + 1):
        found.append(text[:at] + text[at + 1:])
        for sign in signs:
            found.append(text[:at] + sign + text[at:])
            found.append(text[:at] + sign + text[at + 1:])
    return found


class Written(unittest.TestCase):
    def test_each_kind(self):
        for expression, text in SAMPLES:
            self.assertEqual(text, expression_text(expression))
            self.assertEqual(text, expression_text(expression=listed(expression)))
            self.assertEqual(text, expression_text(mixed(expression)))
            self.assertEqual(text, expression_text(mixed(expression, False)))

    def test_each_number(self):
        for number in range(-999, 1000):
            self.assertEqual(str(number), expression_text(("number", number)))
            self.assertEqual(("number", number), read_expression(str(number)))

    def test_no_expression(self):
        for value in (None, True, 0, "", "x", (), [], {}, ("first",), ("number", True), ("number", 1000),
                      ("text", "%"), ("text", "a" * 21), ("name", "list"), ("name", "abcdefghi"), wrapped(A, 8),
                      ("keep", ("fall",)), ("list", (A,) * 5), Program([("main", (), ())]), wrapped(A, 100000)):
            raised(self, NoExpression, expression_text, value)

    def test_programs(self):
        for procedures, text in PROGRAMS:
            self.assertEqual(text, program_text(Program(procedures)))
            self.assertEqual(text, program_text(program=Program(listed(procedures))))

    def test_all_words_in_a_program(self):
        expressions = [expression for expression, _ in SAMPLES]
        bodies = [expressions[at:at + 8] for at in range(0, 40, 8)]
        names = ("main", "b", "c", "d", "e")
        lines = []
        for name, at in zip(names, range(0, 40, 8)):
            lines.append("to " + name + "()")
            lines.extend(["  " + text for _, text in SAMPLES[at:at + 8]])
        program = Program([(name, (), body) for name, body in zip(names, bodies)])
        self.assertEqual("\n".join(lines), program_text(program))
        self.assertEqual(program, read_program("\n".join(lines)))


class Read(unittest.TestCase):
    def at(self, line, column, text, work=read_expression):
        error = raised(self, NoText, work, text)
        self.assertEqual((line, column), (error.line, error.column), text)

    def test_each_kind(self):
        for expression, text in SAMPLES:
            found = read_expression(text)
            self.assertEqual(expression, found)
            self.assertTrue(is_frozen(found))
            self.assertEqual(expression, read_expression(text=text))

    def test_programs(self):
        for procedures, text in PROGRAMS:
            self.assertEqual(Program(procedures), read_program(text))
            self.assertEqual(Program(procedures), read_program(text=text))

    def test_no_strings(self):
        for value in NO_STRINGS + [Program([("main", (), ())])]:
            self.at(-1, -1, value)
            self.at(-1, -1, value, read_program)

    def test_the_examples_of_the_document(self):
        self.at(0, 4, "list")
        self.assertEqual(("name", "lista"), read_expression("lista"))
        self.at(0, 5, "first + 1")
        self.at(0, 0, "")
        raised(self, NoExpression, read_expression, "do()")
        self.assertEqual(("list", ()), read_expression("[]"))
        self.at(0, 5, "call()")
        self.at(0, 1, "-0")
        self.at(0, 1, "007")

    def test_where_expressions_are_refused(self):
        for column, text in (
                (0, "\n"), (0, "\n\n\n"), (0, " 1"), (0, ")"), (0, "A"), (0, "%"), (0, "\t"), (1, "-"), (1, "--1"),
                (1, "-x"), (2, "-1x"), (1, "1 + 2"), (1, "x "), (1, "1\n"), (2, "[]\n"), (1, "x y"), (1, "["),
                (1, "[ ]"), (2, "[1"), (3, "[1,2]"), (4, "[1, ]"), (2, "[1 , 2]"), (5, "[1, 2 "), (4, "(1 <- 2)"),
                (3, "(1 := 2)"), (4, "(x :- 2)"), (4, "(1 <-2)"), (5, "(x <-2)"), (2, "(x+1)"), (3, "(x  + 1)"),
                (4, "(x +1)"), (6, "(1 + 2"), (6, "(1 + 2 + 3)"), (2, "(1)"), (9, "(nothing := 1)"),
                (7, "(fall <- 2)"), (4, "(x => 1)"), (5, "(x <== 1)"), (5, "(x <>= 1)"), (3, "(x % 2)"),
                (3, "(x , 2)"), (4, "(x mid 2)"), (6, "(x mod2)"), (4, "(x in 2)"), (6, "(x isn 2)"),
                (7, "(x isntx 2)"), (3, "(x or 2)"), (5, "(x to2)"), (4, "(mod + 1)"), (3, "fir(1)"), (5, "first"),
                (6, "first("), (6, "first()"), (7, "first(1"), (7, "first(1, 2)"), (8, "first(1))"), (4, "if(1)"),
                (7, "if(1, 2)"), (10, "if(1, 2, 3, 4)"), (5, "most(x, 1)"), (6, "most(1)"), (7, "most(1,1)"),
                (6, "most(00, 1)"), (6, "most(-0, 1)"), (9, "most(1, 2, 3)"), (4, "fall()"), (4, "here()"),
                (7, "nothing()"), (4, "give(x, 1)"), (2, "or(1, 2)"), (3, "mod"), (2, "is"), (4, "isnt"), (2, "to"),
                (1, "'"), (4, "'abc"), (3, "'ab\ncd'"), (3, "'ab%'"), (3, "'ab\t'"), (4, "'ab'c'"),
                (3, "'ab\u00e9'"), (2, "to main()"), (8, "do(1, 2,)"), (3, "do(,)"), (7, "call(1,)")):
            self.at(0, column, text)

    def test_where_programs_are_refused(self):
        for line, column, text in (
                (0, 0, ""), (0, 0, "\n"), (0, 0, "\n\n"), (0, 0, "x"), (0, 0, " to main()"), (0, 2, "tomain()"),
                (0, 2, "to"), (0, 3, "to "), (0, 3, "to  main()"), (0, 3, "to ()"), (0, 3, "to Main()"),
                (0, 7, "to main"), (0, 7, "to main ()"), (0, 7, "to main\n()"), (0, 8, "to main("),
                (0, 8, "to main( )"), (0, 9, "to main(a"), (0, 9, "to main(a b)"), (0, 10, "to main(a,b)"),
                (0, 11, "to main(a, )"), (0, 11, "to main(a, 1)"), (0, 5, "to is()"), (0, 7, "to list()"),
                (0, 12, "to main(list)"), (0, 9, "to main() "), (0, 9, "to main()x"), (0, 9, "to main()\r\n  1"),
                (1, 0, "to main()\n"), (1, 0, "to main()\n\n"), (1, 0, "to main()\nx"), (1, 1, "to main()\n 1"),
                (1, 2, "to main()\n   1"), (1, 2, "to main()\n  "), (1, 2, "to main()\n  \n  1"),
                (1, 3, "to main()\n  1 "), (1, 3, "to main()\n  1\tx"), (1, 6, "to main()\n  list"),
                (1, 7, "to main()\n  first\n  1"), (2, 0, "to main()\n  1\n"), (2, 0, "to main()\n  1\n\nto f()"),
                (2, 2, "to main()\n  1\ntoo f()"), (2, 4, "to main()\n  1\n  'a\n  'b'"),
                (3, 3, "to main()\n  1\nto f()\nto ")):
            self.at(line, column, text, read_program)

    def test_right_texts_that_tell_no_expression(self):
        for text in ("do()", "1000", "-1000", "9" * 5000, "-" + "9" * 5000, "most(21, x)", "most(-1, x)",
                     "most(" + "8" * 9000 + ", x)", "'" + "a" * 21 + "'", "'" + "a" * 9000 + "'", "abcdefghi",
                     "a" * 9000, "(abcdefghi := 1)", "(abcdefghi <- 1)", "[1, 2, 3, 4, 5]", "do(1, 2, 3, 4, 5, 6, 7)",
                     "call(1, 2, 3, 4, 5)", "keep(fall)", "keep(first(back(1)))", "keep([1, out(2)])",
                     "first(" * 8 + "x" + ")" * 8, "[" * 9 + "]" * 9, "(" * 8 + "x" + " + 1)" * 8,
                     "[" + ", ".join(["x"] * 5000) + "]", "call(x" + ", 1" * 9000 + ")"):
            self.assertIsNone(fault(text) if len(text) < 100 else None)
            raised(self, NoExpression, read_expression, text)
        self.assertEqual(wrapped(A, 7), read_expression("first(" * 7 + "a" + ")" * 7))

    def test_thousands_of_nestings(self):
        for begin, end in (("first(", ")"), ("[", "]"), ("(", " + 1)"), ("(1 + ", ")"), ("do(x, ", ", 1)"),
                           ("call(", ", 1)"), ("most(5, ", ")"), ("keep(out(", "))"), ("if(1, ", ", 2)"),
                           ("(x := ", ")"), ("(x <- ", ")")):
            for many in (2000, 30000):
                text = begin * many + "x" + end * many
                raised(self, NoExpression, read_expression, text)
                error = raised(self, NoProgram, read_program, "to main()\n  1\n  " + text + "\nto f()\n  1000")
                self.assertEqual((0, 1), (error.index, error.part))
                self.at(0, len(text) - 1, text[:-1])
                self.at(0, len(text), text + "x")
                self.at(0, many * len(begin), begin * many)
                self.at(2, len(text) + 2, "to main()\n  1\n  " + text + " ", read_program)

    def test_right_texts_that_tell_no_program(self):
        for index, part, text in (
                (0, -1, "to f()"), (0, -1, "to main(a)"), (1, -1, "to main()\nto main()"),
                (1, -1, "to main()\nto f(a, a)"), (1, -1, "to main()\nto f(a, b, c, d)"),
                (1, -1, "to main()\nto abcdefghi()"), (1, -1, "to main()\nto f(abcdefghi)"),
                (1, -1, "to main()\nto f()" + "\n  1" * 9), (0, 1, "to main()\n  1\n  1000\n  do()"),
                (1, 0, "to main()\n  1\nto f()\n  do()"), (0, 0, "to main()\n  " + "7" * 9000),
                (-1, -1, "to main()\nto a()\nto b()\nto c()\nto d()\nto e()\nto f()"),
                (-1, -1, "\n".join(["to f()\n  1000"] * 5000)), (0, -1, "to " + "a" * 9000 + "()"),
                (0, -1, "to main(" + "a, " * 9000 + "a)"), (0, 0, "to main()\n  keep(fall)"),
                (0, -1, "to main()" + "\n  x" * 9000), (0, 2, "to main()\n  1\n  2\n  'aaaaaaaaaaaaaaaaaaaaa'")):
            error = raised(self, NoProgram, read_program, text)
            self.assertEqual((index, part), (error.index, error.part), text[:200])

    def test_two_hundred_and_one_expressions(self):
        row = "\n  do(1, 2, 3, 4, [5, 6, 7, 8], [9, 10, 11])"
        six = "\n  do(1, 2, 3, 4, 5, 6)"
        text = "to main()" + row * 8 + "\nto f()" + row * 5 + six * 2
        full = text + "\n  [1, 2, 3]"
        self.assertEqual(full, program_text(read_program(full)))
        for index, part, other in ((1, 7, text + "\n  [1, 2, 3, 4]"), (2, 0, full + "\nto g()\n  x"),
                                   (2, 0, full + "\nto g()\n  x\n  1000"), (2, -1, full + "\nto g(a, a)\n  x"),
                                   (1, 7, text + "\n  [1, 2, 3, 4]\nto main()")):
            error = raised(self, NoProgram, read_program, other)
            self.assertEqual((index, part), (error.index, error.part))

    def test_what_is_read_is_new_each_time(self):
        first, second = read_program(PROGRAMS[2][1]), read_program(PROGRAMS[2][1])
        first.names().append("x")
        self.assertEqual(second.names(), first.names())


class Words(unittest.TestCase):
    def test_words_are_no_names(self):
        self.assertEqual(36, len(set(WORDS)))
        for word in WORDS:
            self.assertIs(False, is_expression(("name", word)))
            self.assertIs(True, is_expression(("name", word[:7] + "x")))
            text = "(" + word + " := 1)"
            self.assertEqual((0, 1 + len(word) + (word in ("nothing", "fall", "here"))),
                             refused(self, read_expression, text))
            self.assertEqual((0, 3 + len(word)), refused(self, read_program, "to " + word + "()"))
            longer = ("to main()\nto x" + word + "(" + word + "x)").replace("nothing", "noth")
            self.assertEqual(longer, program_text(read_program(longer)))

    def test_the_names_of_expressions_that_are_no_words_are_names(self):
        for word in ("number", "text", "name", "op", "test", "or", "and", "give", "lend", "main", "open"):
            self.assertEqual(("name", word), read_expression(word))
            self.assertEqual((0, len(word)), refused(self, read_expression, word + "(1, 2)"))


class Faults(unittest.TestCase):
    """The places of all faults, against the grammar, which tells them in its own way."""

    def test_each_expression_altered_at_each_place(self):
        for _, text in SAMPLES:
            self.assertIsNone(fault(text))
            for other in altered(text, SIGNS):
                self.assertEqual(fault(other), refused(self, read_expression, other), other)

    def test_what_is_not_refused_is_written_again(self):
        for _, text in SAMPLES:
            for other in altered(text, "a1-( ,)"):
                if fault(other) is None:
                    try:
                        self.assertEqual(other, expression_text(read_expression(other)))
                    except NoExpression:
                        self.assertRegex(other, "[a-z]{9}|[0-9]{4}|most|do[(][)]")

    def test_each_kind_as_a_line_of_a_program(self):
        for _, text in SAMPLES:
            for at in range(len(text) + 1):
                for other in (text[:at], text[:at] + "\n" + text[at:], text[:at] + text[at + 1:], text + "\n  x"):
                    whole = "to main()\n  " + other
                    self.assertEqual(fault(whole, "PROGRAM"), refused(self, read_program, whole), whole)

    def test_programs_altered_at_each_place(self):
        for _, text in PROGRAMS:
            self.assertIsNone(fault(text, "PROGRAM"))
            for other in altered(text, "atos0 (),[]-'\n%"):
                self.assertEqual(fault(other, "PROGRAM"), refused(self, read_program, other), other)

    def test_texts_of_one_kind_read_as_the_other(self):
        for _, text in SAMPLES:
            self.assertEqual(fault(text, "PROGRAM"), refused(self, read_program, text))
        for _, text in PROGRAMS:
            self.assertEqual((0, 2), refused(self, read_expression, text))

    def test_the_grammar_itself(self):
        self.assertIsNone(fault("lista"))
        self.assertEqual((0, 4), fault("list"))
        self.assertEqual((0, 5), fault("first + 1"))
        self.assertEqual((0, 0), fault(""))
        self.assertEqual((1, 0), fault("to main()\n", "PROGRAM"))
        self.assertEqual((2, 1), place_of("ab\n\ncd", 5))


class Interface(unittest.TestCase):
    def test_arguments(self):
        for name, wanted in (("expression_text", "expression"), ("program_text", "program"),
                             ("read_expression", "text"), ("read_program", "text")):
            work = getattr(texts, name)
            self.assertEqual([wanted], list(inspect.signature(work).parameters))
            self.assertEqual("triedagain.texts", work.__module__)

    def test_nothing_is_changed(self):
        for expression, text in SAMPLES:
            given = listed(expression)
            expression_text(given)
            self.assertEqual(listed(expression), given)
        self.assertEqual("call(a, -7, 'so it is')", expression_text(["call", A, [B, C]]))


if __name__ == "__main__":
    unittest.main()
