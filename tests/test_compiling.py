"""[32]: codes of programs tell what runs tell, shortened codes tell what the codes tell, and have their shape."""

import unittest

from triedagain.codes import Code
from triedagain.compiling import compiled, shortened
from triedagain.errors import TooMany
from triedagain.machine import MachineRun, marks_put
from triedagain.programs import Program, is_expression, walk
from triedagain.runs import Run
from triedagain.shapes import size_of
from triedagain.texts import program_text
from tests.drawn import drawn_code, drawn_program, padded, plain_procedures
from tests.mill import Mill, Slow
from tests.plain import Plain, Tired, told
from tests.samples import SAMPLES, raised
from tests.telling import FAILED, program_of

ENDING = ("jump", "any", "fail", "back", "fall", "yield")
NAMING = ("jump", "retry", "any", "keep")
ONE = Program([("main", (), ())])


def leads_on_without_end(rows, place):
    passed = set()
    while rows[place][0] == "jump":
        if place in passed:
            return True
        passed.add(place)
        place = rows[place][1]
    return False


def shape_faults(code):
    """What is not as (a) to (d) have it."""
    rows = code.rows()
    entries = [code.entry(name) for name in code.program().names()]
    reached, waiting = set(), list(entries)
    while waiting:
        place = waiting.pop()
        if place == len(rows) or place in reached:
            continue
        reached.add(place)
        if rows[place][0] in NAMING:
            waiting.append(rows[place][1])
        if rows[place][0] not in ENDING:
            waiting.append(place + 1)
    named = set(entries) | {row[1] for row in rows if row[0] in NAMING}
    found = [("a", place) for place in range(len(rows)) if place not in reached]
    for place, row in enumerate(rows):
        behind = rows[place + 1][0] if place + 1 < len(rows) else None
        if row == ("jump", place + 1):
            found.append(("b", place))
        if row[0] in NAMING and rows[row[1]][0] == "jump" and not leads_on_without_end(rows, row[1]):
            found.append(("b", place))
        if row[0] == "open" and behind == "shut" and place + 1 not in named and place + 2 < len(rows):
            found.append(("c", place))
        if row[0] == "retry" and behind is not None and "fail" in (behind, rows[row[1]][0]):
            found.append(("d", place))
    return found


class Drawn(unittest.TestCase):
    def test_run_machine_and_shortened_tell_the_same(self):
        seen = {}
        for seed in range(1500):
            program = drawn_program(seed)
            with self.subTest(seed=seed, program=program_text(program)):
                self.one_program(program, seen)
        self.assertGreater(seen["gave"], 1000)
        self.assertGreater(seen["failed"], 800)
        self.assertGreater(seen["wrong"], 200)

    def one_program(self, program, seen):
        plain = Plain(plain_procedures(program))
        code = compiled(program)
        short = shortened(code)
        self.is_small(program, code)
        self.assertEqual([], shape_faults(short))
        runs = [Run(program), MachineRun(code), MachineRun(short)]
        mills = [Mill(code), Mill(short)]
        for _ in range(12):
            try:
                answer = plain.ask(2000)
            except Tired:
                return
            seen[answer[0]] = seen.get(answer[0], 0) + 1
            self.assertEqual([answer] * 5, [runs[0].ask(steps=max(1, plain.count))] + [run.ask() for run in runs[1:]] +
                             [mill.ask() for mill in mills])
            self.assertEqual([plain.said] * 5, [run.said() for run in runs] + [mill.said for mill in mills])
            self.assertLessEqual(mills[0].count, 100 * plain.count + 100)
            self.assertLessEqual(mills[1].count, mills[0].count)
            self.assertLessEqual(mills[1].marked, mills[0].marked)
            if answer[0] != "gave":
                return
            self.assertEqual([told(plain.worth)] * 3, [run.worth() for run in runs])

    def is_small(self, program, code):
        self.assertEqual(program, code.program())
        bodies = [program.procedure(name)[2] for name in program.names()]
        many = sum(size_of(part) for body in bodies for part in body)
        self.assertLessEqual(len(code), 40 * many + 10 * len(bodies))

    def test_runs_need_the_steps_that_askings_tell(self):
        for seed in range(300):
            program = drawn_program(seed)
            plain = Plain(plain_procedures(program))
            try:
                plain.ask(2000)
            except Tired:
                continue
            if plain.count >= 20:
                raised(self, TooMany, Run(program).ask, steps=plain.count // 10 - 1)
                raised(self, TooMany, Run(program).ask, steps=plain.count - 1)

    def test_codes_drawn_instruction_by_instruction(self):
        seen = {}
        for seed in range(3000):
            code = drawn_code(seed)
            with self.subTest(seed=seed):
                self.one_code(padded(code, seed) if seed % 3 == 0 else code, seen)
        for word, least in (("gave", 400), ("failed", 300), ("wrong", 1000), ("slow", 50), ("full", 80)):
            self.assertGreater(seen[word], least)

    def test_codes_of_programs_with_more_put_in(self):
        seen = {}
        for seed in range(400):
            code = padded(compiled(drawn_program(seed)), seed)
            with self.subTest(seed=seed):
                self.one_code(code, seen)
                self.assertLess(len(shortened(code)), len(code))

    def one_code(self, code, seen):
        """MachineRun tells what the mill tells, in as many steps, and so does the shortened code, in no more."""
        short = shortened(code)
        self.assertEqual([], shape_faults(short))
        self.assertLessEqual(len(short), len(code))
        self.assertEqual(code.program(), short.program())
        mill, less = Mill(code), Mill(short)
        run, other = MachineRun(code), MachineRun(short)
        marked = 0
        for asks in range(1, 7):
            try:
                answer = mill.ask(3000)
            except Slow:
                seen["slow"] = seen.get("slow", 0) + 1
                raised(self, TooMany, run.ask, steps=3000)
                self.also_slow(code, asks, less)
                return
            marked += mill.marked
            self.assertEqual(answer, run.ask(steps=max(1, mill.count)))
            self.assertEqual(mill.said, run.said())
            self.assertEqual(marked, marks_put(code, asks))
            seen[answer[0]] = seen.get(answer[0], 0) + 1
            if mill.full:
                seen["full"] = seen.get("full", 0) + 1
                return
            self.assertEqual([answer, answer], [less.ask(mill.count), other.ask(steps=max(1, mill.count))])
            self.assertEqual([mill.said, mill.said], [less.said, other.said()])
            self.assertLessEqual(less.marked, mill.marked)
            if answer[0] != "gave":
                return
            self.assertEqual([told(mill.worth)] * 2, [run.worth(), other.worth()])

    def also_slow(self, code, asks, less):
        """What ends nevertheless in the shortened code ends in the same way, if at all, in a longer run of the code."""
        mill = Mill(code)
        try:
            awaited = less.ask(3000)
            self.assertEqual(awaited, [mill.ask(100000) for _ in range(asks)][-1])
        except Slow:
            pass

    def test_the_step_at_which_a_machine_run_raises(self):
        for seed in range(0, 600, 2):
            code = drawn_code(seed)
            mill = Mill(code)
            try:
                mill.ask(3000)
            except Slow:
                continue
            if mill.count > 1:
                raised(self, TooMany, MachineRun(code).ask, steps=mill.count - 1)


class Compiled(unittest.TestCase):
    def test_each_expression_alone(self):
        for expression, _ in SAMPLES:
            program = Program([("main", (), (("out", expression) if size_of(expression) < 5 else expression,))])
            code = compiled(program)
            self.assertLessEqual(len(code), 40 * (1 + size_of(expression)) + 10)
            if expression[0] != "while":
                self.assertEqual(Run(program).ask(), MachineRun(code).ask())
            self.assertEqual([], shape_faults(shortened(code)))

    def test_the_longest_programs(self):
        body = tuple(("do", (("name", "x"),) * 6) for _ in range(8))
        program = Program([("main", (), body), ("f", (), body), ("g", (), body[:6]), ("h", (), ())])
        code = compiled(program=program)
        self.assertIsInstance(code, Code)
        self.assertLessEqual(len(code), 40 * 154 + 40)
        self.assertEqual(FAILED, MachineRun(code).ask())

    def test_rows_never_get_full(self):
        one, two = ("number", 1), ("number", 2)
        for shape in (lambda e: ("list", (one, two, one, e)), lambda e: ("place", ("list", (one,)), ("number", 0), e),
                      lambda e: ("call", ("name", "f"), (one, two, e)), lambda e: ("most", 3, e),
                      lambda e: ("again", e), lambda e: ("first", e), lambda e: ("no", e),
                      lambda e: ("scan", ("text", "a"), e), lambda e: ("if", e, one, two), lambda e: ("do", (e, one)),
                      lambda e: ("every", e, two), lambda e: ("while", ("test", "<", one, one), e),
                      lambda e: ("or", ("test", "is", one, two), e), lambda e: ("lend", "x", e),
                      lambda e: ("ask", ("keep", e))):
            inner = one
            while is_expression(("out", shape(inner))):
                inner = shape(inner)
            self.assertGreater(len(list(walk(inner))), 6)
            self.one_deep(inner)

    def one_deep(self, inner):
        program = Program([("main", (), (("out", inner),)), ("f", ("a", "b", "c"), (("out", ("name", "c")),))])
        code = compiled(program)
        for made in (code, shortened(code)):
            run, plain = MachineRun(made), Run(program)
            self.assertEqual([plain.ask() for _ in range(3)], [run.ask() for _ in range(3)])


class Shortened(unittest.TestCase):
    def shortens(self, rows, awaited, entry=0, last=0):
        """Tells what is left, where just one code has the shape."""
        rows = [(row,) if isinstance(row, str) else row for row in rows]
        awaited = [(row,) if isinstance(row, str) else row for row in awaited]
        code = Code(ONE, {"main": entry}, rows)
        short = shortened(code=code)
        self.assertEqual((awaited, last), (short.rows(), short.entry("main")))
        self.assertEqual([], shape_faults(short))
        self.assertEqual(rows, code.rows())
        self.assertEqual(short, shortened(short))

    def test_what_cannot_be_reached(self):
        self.shortens([("worth", 1), "back", ("worth", 2), "back"], [("worth", 1), "back"])
        self.shortens(["fail", ("worth", 1), "fall"], [("worth", 1), "fall"], entry=1)
        self.shortens(["drop", ("any", 3), "drop", "fall", ("jump", 2)], ["drop", ("any", 2), "fall"])
        self.shortens([("keep", 3), ("worth", 1), "yield", "ask", "out", "fail", "ask"],
                      [("keep", 3), ("worth", 1), "yield", "ask", "out", "fail"])

    def test_a_last_row_behind_which_the_code_ends(self):
        self.shortens([("jump", 2), "fail", ("worth", 1)], [("worth", 1)])
        self.shortens([("worth", 1), "open", "shut"], [("worth", 1), "open", "shut"])
        self.shortens([("worth", 1), ("retry", 0)], [("worth", 1), ("retry", 0)])
        self.shortens(["fail", ("retry", 0)], ["fail", ("retry", 0)], entry=1, last=1)

    def test_jumps(self):
        self.shortens([("jump", 1), "fall"], ["fall"])
        self.shortens([("jump", 3), ("worth", 1), "back", ("jump", 1)], [("worth", 1), "back"])
        self.shortens(["drop", ("retry", 3), "fall", ("jump", 4), "back"], ["drop", ("retry", 3), "fall", "back"])
        self.shortens([("jump", k + 1) for k in range(50)] + ["fall"], ["fall"])
        self.shortens([("retry", 2), "fall", ("jump", 3), ("jump", 5), "drop", "back"], [("retry", 2), "fall", "back"])

    def test_jumps_in_rings(self):
        self.shortens([("jump", 0)], [("jump", 0)])
        for many in (2, 3, 40):
            rows = [("jump", (k + 1) % many) for k in range(many)]
            for entry in (0, 1, many - 1):
                self.shortens(rows, [("jump", 0)], entry=entry)
        self.shortens(["open", "shut", ("jump", 0)], [("jump", 0)])
        self.shortens(["drop", ("jump", 2), ("jump", 1)], ["drop", ("jump", 1)])
        self.shortens([("retry", 2), ("jump", 0), ("jump", 3), ("jump", 2)], [("retry", 2), ("jump", 0), ("jump", 2)])
        self.shortens([("retry", 0), "fail"], [("jump", 0)])
        for rows in ([("jump", 0)], ["open", "shut", ("jump", 0)], [("retry", 0), "fail"]):
            code = Code(ONE, {"main": 0}, [(row,) if isinstance(row, str) else row for row in rows])
            raised(self, TooMany, MachineRun(shortened(code)).ask)

    def test_opens_with_a_shut_behind(self):
        self.shortens(["open", "shut", "fall"], ["fall"])
        self.shortens(["open", "open", "shut", "open", "shut", "shut", "fall"], ["fall"])
        self.shortens(["open", ("retry", 2), "shut", "fall"], ["open", ("retry", 2), "shut", "fall"])
        self.shortens(["open", ("jump", 2), "shut", "fall"], ["fall"])
        self.shortens(["open", "shut", ("any", 1)], ["open", "shut", ("any", 1)])
        self.shortens(["open", "shut", "fall"], ["shut", "fall"], entry=1)

    def test_retries_and_fails(self):
        self.shortens([("retry", 3), "fail", "fall", "back"], ["back"])
        self.shortens([("retry", 3), "drop", "back", "fail"], ["drop", "back"])
        self.shortens([("retry", 3), "drop", "back", ("jump", 4), "fail"], ["drop", "back"])
        self.shortens([("retry", 2), ("retry", 2), "fail"], ["fail"])
        self.shortens([("retry", 3), "drop", ("any", 0), ("retry", 4), "fail"],
                      ["drop", ("any", 0)])
        self.shortens([("retry", 4), "open", "shut", "fail", "drop", "back"], ["drop", "back"])

    def test_one_makes_another_possible(self):
        rows = []
        for stage in range(30):
            rows += [("open",), ("retry", 4 * stage + 4), ("shut",), ("fail",)]
        self.shortens(rows + ["fail"], ["fail"])
        self.shortens(["open"] * 40 + ["shut"] * 40 + ["fall"], ["fall"])

    def test_the_longest_codes(self):
        for rows in ([("open",)] * 4499 + [("shut",)] * 4500 + [("fail",)],
                     [("jump", k + 1) for k in range(8999)] + [("fail",)],
                     [("jump", (k + 1) % 9000) for k in range(9000)], [("retry", 8999)] * 8999 + [("fail",)]):
            code = Code(ONE, {"main": 0}, rows)
            self.assertLess(len(shortened(code)), 3)
        stages = []
        for stage in range(2249):
            stages += [("open",), ("retry", 4 * stage + 4), ("shut",), ("fail",)]
        self.assertEqual([("fail",)], shortened(Code(ONE, {"main": 0}, stages + [("fail",)])).rows())

    def test_entries(self):
        program = Program([("main", (), ()), ("f", (), ()), ("g", (), ())])
        rows = [("jump", 3), ("open",), ("shut",), ("jump", 5), ("fail",), ("name", "f"), ("call", 0), ("back",)]
        short = shortened(Code(program, {"main": 0, "f": 1, "g": 7}, rows))
        self.assertEqual([], shape_faults(short))
        self.assertEqual([("name", "f"), ("call", 0), ("back",)], short.rows())
        self.assertEqual([0, 0, 2], [short.entry(name) for name in ("main", "f", "g")])

    def test_a_jump_to_what_becomes_a_jump_to_the_place_behind_it(self):
        program = Program([("main", (), ()), ("f", (), ())])
        rows = [("worth", 1), ("retry", 4), ("fail",), ("jump", 1), ("fall",)]
        short = shortened(Code(program, {"main": 0, "f": 3}, rows))
        self.assertEqual([("worth", 1), ("fall",)], short.rows())
        self.assertEqual([0, 1], [short.entry(name) for name in ("main", "f")])

    def test_an_entry_that_names_a_shut(self):
        program = Program([("main", (), ()), ("f", (), ())])
        for ahead in ([], [("jump", 2)]):
            rows = ahead + [("open",), ("shut",), ("fall",)]
            short = shortened(Code(program, {"main": len(ahead), "f": len(ahead) + 1}, rows))
            self.assertEqual([("open",), ("shut",), ("fall",)], short.rows())
            self.assertEqual([0, 1], [short.entry(name) for name in ("main", "f")])
        self.shortens(["open", "shut", "fall", ("jump", 1)], ["fall"])

    def test_a_compiled_program(self):
        code = compiled(program_of("out(do((1 to 2), first(3), no(no(4))))", "no(fall)"))
        self.assertLess(len(shortened(code)), len(code))
        self.assertLess(marks_put(shortened(code), 3), marks_put(code, 3) + 1)


if __name__ == "__main__":
    unittest.main()
