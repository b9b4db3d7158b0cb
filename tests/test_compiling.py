"""Points 17 and 18: rows and blocks."""

import unittest

from evaluating import done_by_rows
from filling import any_kinded_program
from helpers import DeepCallsTest, seeded
from naming import any_bound_program
from speakmill.compiling import compiled, fns_in, rows_of
from speakmill.reading import read
from speakmill.reckoning import reckoned
from speakmill.scopes import placed

ONE, TWO, THREE, NONE = ("number", 1), ("number", 2), ("number", 3), ("none",)
PUSH1, PUSH2, PUSH3 = ("push", 1), ("push", 2), ("push", 3)
BACK = ("back",)
ID = ("fn", (), 1, ("slot", 0))
SIGN_ROWS = (("+", "add"), ("-", "sub"), ("*", "mul"), ("/", "div"), ("<", "less"), ("=", "same"), (":", "cons"))


def slot(k):
    return ("slot", k)


def load(k):
    return ("load", k)


def iffed(c, a, b):
    return ("if", c, a, b)


def rows_by_calls(term, first):
    """The rows once more, by calls, with the number of the next block."""
    form = term[0]
    if form in ("number", "truth"):
        return (("push", term[1]),), first
    if form == "none":
        return (("none",),), first
    if form == "slot":
        return (("load", term[1]),), first
    if form == "fn":
        loads = tuple(("load", slot) for slot in term[1])
        return loads + (("close", first, len(loads)),), rows_by_calls(term[3], first + 1)[1]
    parts = {"two": term[2:], "one": term[2:], "if": term[1:], "let": term[2:], "do": term[1:],
             "call": term[2] if form == "call" else ()}[form]
    rows = []
    for part in parts:
        some, first = rows_by_calls(part, first)
        rows.append(some)
    if form == "if":
        c, a, b = rows
        return c + (("unless", len(a) + 1),) + a + (("skip", len(b)),) + b, first
    if form == "let":
        return rows[0] + (("keep", term[1]),) + rows[1], first
    last = {"two": (dict(SIGN_ROWS).get(term[1]),), "one": (term[1],), "do": ("apply",),
            "call": ("call", term[1], len(parts))}[form]
    return sum(rows, ()) + (last,), first


def blocks_by_calls(program):
    functions, main = program
    blocks = {}

    def block(number, count, size, body, first):
        rows = rows_by_calls(body, first)[0]
        blocks[number] = (count, size, rows + (BACK,))
        return fns_within(body, first)

    def fns_within(term, number):
        if term[0] == "fn":
            return block(number, len(term[1]) + 1, term[2], term[3], number + 1)
        parts = term[2] if term[0] == "call" else [part for part in term[1:] if isinstance(part, tuple)]
        for part in parts:
            number = fns_within(part, number)
        return number

    first = len(functions)
    for number, (count, size, body) in enumerate(functions):
        first = block(number, count, size, body, first)
    return [blocks[number] for number in range(first)], main


class CompilingTest(unittest.TestCase):
    def rows(self, term, *wanted, first=0):
        kept = repr(term)
        for many in range(2):
            told = rows_of(term, first)
            self.assertEqual(repr(told), repr(wanted), msg=term)
        self.assertEqual(repr(term), kept)


class RowsTest(CompilingTest):
    """Point 18."""

    def test_leaves(self):
        self.rows(("number", 0), ("push", 0))
        self.rows(("number", 999999999999), ("push", 999999999999))
        self.rows(("truth", True), ("push", True))
        self.rows(("truth", False), ("push", False))
        self.rows(NONE, ("none",))
        self.rows(slot(0), ("load", 0))
        self.rows(slot(17), ("load", 17))

    def test_each_sign(self):
        for sign, word in SIGN_ROWS:
            self.rows(("two", sign, slot(1), ONE), load(1), PUSH1, (word,))
            self.rows(("two", sign, ONE, slot(1)), PUSH1, load(1), (word,))
            self.rows(("two", sign, ("two", sign, ONE, TWO), THREE), PUSH1, PUSH2, (word,), PUSH3, (word,))
            self.rows(("two", sign, ONE, ("two", sign, TWO, THREE)), PUSH1, PUSH2, PUSH3, (word,), (word,))

    def test_each_word(self):
        for word in ("head", "tail", "empty", "not"):
            self.rows(("one", word, slot(2)), load(2), (word,))
            self.rows(("one", word, ("one", "tail", NONE)), ("none",), ("tail",), (word,))

    def test_if(self):
        self.rows(iffed(slot(0), ONE, TWO), load(0), ("unless", 2), PUSH1, ("skip", 1), PUSH2)
        self.rows(iffed(("one", "not", slot(0)), ("two", "+", ONE, TWO), ("one", "head", slot(1))),
                  load(0), ("not",), ("unless", 4), PUSH1, PUSH2, ("add",), ("skip", 2), load(1), ("head",))

    def test_ifs_within_ifs(self):
        inner = iffed(slot(0), ONE, TWO)
        rows = (load(0), ("unless", 2), PUSH1, ("skip", 1), PUSH2)
        self.rows(iffed(inner, ONE, TWO), *rows, ("unless", 2), PUSH1, ("skip", 1), PUSH2)
        self.rows(iffed(slot(3), inner, TWO), load(3), ("unless", 6), *rows, ("skip", 1), PUSH2)
        self.rows(iffed(slot(3), TWO, inner), load(3), ("unless", 2), PUSH2, ("skip", 5), *rows)
        self.rows(iffed(inner, inner, inner), *rows, ("unless", 6), *rows, ("skip", 5), *rows)
        self.rows(iffed(slot(1), iffed(slot(2), inner, THREE), inner),
                  load(1), ("unless", 10), load(2), ("unless", 6), *rows, ("skip", 1), PUSH3, ("skip", 5), *rows)

    def test_ifs_within_other_forms(self):
        rows = (load(0), ("unless", 2), PUSH1, ("skip", 1), PUSH2)
        inner = iffed(slot(0), ONE, TWO)
        self.rows(("two", "*", inner, inner), *rows, *rows, ("mul",))
        self.rows(("let", 4, inner, inner), *rows, ("keep", 4), *rows)
        self.rows(("call", 2, (inner, THREE, inner)), *rows, PUSH3, *rows, ("call", 2, 3))
        self.rows(("do", inner, inner), *rows, *rows, ("apply",))

    def test_let(self):
        self.rows(("let", 0, ONE, slot(0)), PUSH1, ("keep", 0), load(0))
        self.rows(("let", 3, ("let", 3, ONE, slot(3)), ("let", 4, slot(3), slot(4))),
                  PUSH1, ("keep", 3), load(3), ("keep", 3), load(3), ("keep", 4), load(4))

    def test_fns(self):
        self.rows(ID, ("close", 0, 0))
        self.rows(ID, ("close", 12, 0), first=12)
        self.rows(("fn", (2,), 2, slot(0)), load(2), ("close", 5, 1), first=5)
        self.rows(("fn", (0, 1, 4), 4, slot(0)), load(0), load(1), load(4), ("close", 5, 3), first=5)
        self.rows(("fn", (4, 0, 2, 2), 9, ("two", "+", slot(0), ONE)), load(4), load(0), load(2), load(2),
                  ("close", 1, 4), first=1)

    def test_do_and_call(self):
        self.rows(("do", slot(0), slot(1)), load(0), load(1), ("apply",))
        self.rows(("do", ("do", slot(0), ONE), TWO), load(0), PUSH1, ("apply",), PUSH2, ("apply",))
        self.rows(("do", ID, ID), ("close", 3, 0), ("close", 4, 0), ("apply",), first=3)
        self.rows(("call", 7, ()), ("call", 7, 0))
        self.rows(("call", 0, (ONE,)), PUSH1, ("call", 0, 1))
        self.rows(("call", 1, (ONE, slot(0), TWO, NONE)), PUSH1, load(0), PUSH2, ("none",), ("call", 1, 4))
        self.rows(("call", 1, (("call", 2, ()), ("call", 3, (ONE,)))), ("call", 2, 0), PUSH1, ("call", 3, 1),
                  ("call", 1, 2))
        self.rows(("call", 1, (ONE,) * 30), *[PUSH1] * 30, ("call", 1, 30))

    def test_the_numbers_of_fns(self):
        inside = ("fn", (), 1, ("do", ID, ("fn", (0,), 2, ID)))
        self.rows(("two", ":", ID, ("two", ":", ID, NONE)), ("close", 9, 0), ("close", 10, 0), ("none",), ("cons",),
                  ("cons",), first=9)
        # The three that stand in the first one come ahead of the second one.
        self.rows(("do", inside, ID), ("close", 9, 0), ("close", 13, 0), ("apply",), first=9)
        self.rows(("call", 2, (ID, inside, ONE, ID)), ("close", 1, 0), ("close", 2, 0), PUSH1, ("close", 6, 0),
                  ("call", 2, 4), first=1)
        self.rows(iffed(("do", inside, ONE), ID, inside), ("close", 0, 0), PUSH1, ("apply",), ("unless", 2),
                  ("close", 4, 0), ("skip", 1), ("close", 5, 0))
        self.rows(("let", 0, inside, ("let", 1, ID, ID)), ("close", 0, 0), ("keep", 0), ("close", 4, 0), ("keep", 1),
                  ("close", 5, 0))
        self.rows(("one", "empty", ("two", ":", inside, ("one", "tail", ("two", ":", inside, NONE)))),
                  ("close", 0, 0), ("close", 4, 0), ("none",), ("cons",), ("tail",), ("cons",), ("empty",))

    def test_fns_in(self):
        inside = ("fn", (), 1, ("do", ID, ("fn", (0,), 2, ID)))
        for term, many in ((ONE, 0), (("truth", True), 0), (NONE, 0), (slot(1), 0), (ID, 1), (inside, 4),
                           (("two", ":", ID, inside), 5), (("one", "head", inside), 4), (iffed(ID, inside, ID), 6),
                           (("let", 0, inside, ID), 5), (("let", 0, ID, inside), 5), (("do", ID, ID), 2),
                           (("call", 0, ()), 0), (("call", 0, (ID, ONE, inside, ID, ID)), 7),
                           (("fn", (1, 2), 3, ("fn", (0,), 2, ("fn", (1,), 2, inside))), 7)):
            self.assertEqual(fns_in(term), many)
            self.assertIs(type(fns_in(term)), int)

    def test_any_terms(self):
        chance = seeded(18)
        for many in range(300):
            for count, size, body in placed(any_bound_program(chance, 2 + many % 4))[0]:
                rows, behind = rows_by_calls(body, many)
                self.assertEqual(repr(rows_of(body, many)), repr(rows))
                self.assertEqual(fns_in(body), behind - many)


class BlocksTest(CompilingTest):
    """Point 17."""

    def blocks(self, text, wanted, main=0):
        program = placed(read(text))
        kept = repr(program)
        told = compiled(program)
        self.assertEqual(repr(told), repr((wanted, main)))
        self.assertEqual(repr(program), kept)

    def test_functions(self):
        self.blocks("def main() = 1", [(0, 0, (PUSH1, BACK))])
        self.blocks("def main(a, b) = let c = a in c",
                    [(2, 3, (load(0), ("keep", 2), load(2), BACK))])
        self.blocks("def f(x) = x def main(y) = f(y + 1) def g() = main(2)",
                    [(1, 1, (load(0), BACK)), (1, 1, (load(0), PUSH1, ("add",), ("call", 0, 1), BACK)),
                     (0, 0, (PUSH2, ("call", 1, 1), BACK))], main=1)

    def test_the_number_of_main(self):
        for at in range(4):
            program = ["def f() = 1", "def g() = fn x => x", "def h() = 3"]
            program.insert(at, "def main() = (fn x => x) ! 2")
            blocks, main = compiled(placed(read(" ".join(program))))
            self.assertEqual(main, at)
            self.assertEqual(len(blocks), 6)
            self.assertEqual(blocks[at][2][1:], (PUSH2, ("apply",), BACK))

    def test_fns_beside_one_another(self):
        self.blocks("def main(a) = (fn x => x + a) ! ((fn y => 1) ! 2)", [
            (1, 1, (load(0), ("close", 1, 1), ("close", 2, 0), PUSH2, ("apply",), ("apply",), BACK)),
            (2, 2, (load(1), load(0), ("add",), BACK)),
            (1, 1, (PUSH1, BACK)),
        ])

    def test_fns_within_one_another(self):
        self.blocks("def main(a, b) = (fn x => fn y => let z = y in (fn w => b + w) ! z) ! a ! b", [
            (2, 2, (load(1), ("close", 1, 1), load(0), ("apply",), load(1), ("apply",), BACK)),
            (2, 2, (load(0), ("close", 2, 1), BACK)),
            (2, 3, (load(1), ("keep", 2), load(0), ("close", 3, 1), load(2), ("apply",), BACK)),
            (2, 2, (load(0), load(1), ("add",), BACK)),
        ])

    def test_fns_of_several_functions(self):
        self.blocks("def f() = (fn x => fn y => 1) : (fn x => fn y => 2) : [] def main(n) = 3 "
                    "def g(a) = if a then fn x => a else fn x => (fn y => yes) ! x", [
                        (0, 0, (("close", 3, 0), ("close", 5, 0), ("none",), ("cons",), ("cons",), BACK)),
                        (1, 1, (PUSH3, BACK)),
                        (1, 1, (load(0), ("unless", 3), load(0), ("close", 7, 1), ("skip", 1), ("close", 8, 0), BACK)),
                        (1, 1, (("close", 4, 0), BACK)),
                        (1, 1, (PUSH1, BACK)),
                        (1, 1, (("close", 6, 0), BACK)),
                        (1, 1, (PUSH2, BACK)),
                        (2, 2, (load(0), BACK)),
                        (1, 1, (("close", 9, 0), load(0), ("apply",), BACK)),
                        (1, 1, (("push", True), BACK)),
                    ], main=1)

    def test_counts_and_sizes(self):
        text = ("def main(a, b, c) = let d = a in (fn x => let y = x + d in let z = y + c in z + a) ! b "
                "def f() = let x = 1 in let y = 2 in fn z => x")
        blocks = compiled(placed(read(text)))[0]
        self.assertEqual([block[:2] for block in blocks], [(3, 4), (0, 2), (4, 6), (2, 2)])

    def test_back_is_the_last_row(self):
        chance = seeded(17)
        for many in range(100):
            for count, size, rows in compiled(placed(any_bound_program(chance, 4)))[0]:
                self.assertEqual(rows.index(BACK), len(rows) - 1)

    def test_kinds_of_python(self):
        told = compiled(placed(read("def main(n) = (fn x => x) ! n")))
        self.assertIs(type(told), tuple)
        self.assertEqual([type(part) for part in told], [list, int])
        for block in told[0]:
            self.assertIs(type(block), tuple)
            self.assertEqual([type(part) for part in block], [int, int, tuple])
            self.assertEqual({type(row) for row in block[2]}, {tuple})

    def test_what_was_told_is_changed_and_asked_again(self):
        program = placed(read("def main(n) = (fn x => f(x)) ! n def f(x) = x"))
        kept = repr(program)
        first = compiled(program)
        text = repr(first)
        second = compiled(program)
        first[0][0] = None
        first[0].append("more")
        self.assertEqual(repr(second), text)
        self.assertEqual(repr(compiled(program)), text)
        self.assertEqual(repr(program), kept)
        program[0].pop()
        self.assertEqual(repr(second), text)

    def test_any_programs(self):
        chance = seeded(171)
        fns = 0
        for many in range(400):
            program = placed(any_bound_program(chance, 2 + many % 5))
            told = compiled(program)
            self.assertEqual(repr(told), repr(blocks_by_calls(program)))
            fns += len(told[0]) - len(program[0])
        self.assertGreater(fns, 1000)


class DoneTest(DeepCallsTest):
    """The rows, when they are done, tell what reckoning tells."""

    def test_any_programs(self):
        chance = seeded(172)
        words = []
        for many in range(600):
            program = any_kinded_program(chance, 2 + many % 5)
            numbers = [chance.randint(-3, 9) for name in [one for one in program if one[1] == "main"][0][2]]
            blocks, main = compiled(placed(program))
            for most in (0, 2, 30, 1000):
                answer = reckoned(program, numbers, most)
                self.assertEqual(repr(done_by_rows(blocks, main, numbers, most)[0]), repr(answer))
            words.append(answer[0])
        self.assertGreater(words.count("value"), 150)


class GreatTest(CompilingTest):
    """Nothing is refused for its size, nor for what an fn takes besides."""

    def test_deep(self):
        for wrap, rows in ((lambda term: ("two", "+", ONE, term), (PUSH1,) * 3000 + (load(0),) + (("add",),) * 3000),
                           (lambda term: ("one", "not", term), (load(0),) + (("not",),) * 3000),
                           (lambda term: ("let", 1, term, slot(1)), (load(0),) + (("keep", 1), load(1)) * 3000),
                           (lambda term: ("do", term, ID),
                            (load(0),) + sum([(("close", 5 + k, 0), ("apply",)) for k in range(3000)], ())),
                           (lambda term: ("call", 3, (ONE, term)), (PUSH1,) * 3000 + (load(0),)
                            + (("call", 3, 2),) * 3000)):
            term = slot(0)
            for many in range(3000):
                term = wrap(term)
            self.assertEqual(rows_of(term, 5), rows)
            self.assertEqual(fns_in(term), 3000 if term[0] == "do" else 0)
            self.assertEqual(compiled(([(1, 2, ONE), (1, 2, term)], 0))[0][1][2][0], rows[0])

    def test_deep_ifs(self):
        term = ONE
        for many in range(2000):
            term = iffed(slot(0), TWO, term)
        rows = rows_of(term, 0)
        self.assertEqual(len(rows), 4 * 2000 + 1)
        for at in range(2000):
            self.assertEqual(rows[4 * at:4 * at + 4], (load(0), ("unless", 2), PUSH2, ("skip", len(rows) - 4 * at - 4)))

    def test_deep_fns(self):
        term = slot(0)
        for many in range(1500):
            term = ("fn", (0,), 2, term)
        blocks = compiled(([(1, 1, term)], 0))[0]
        self.assertEqual(blocks[0], (1, 1, (load(0), ("close", 1, 1), BACK)))
        for number in range(1, 1500):
            self.assertEqual(blocks[number], (2, 2, (load(0), ("close", number + 1, 1), BACK)))
        self.assertEqual(blocks[1500:], [(2, 2, (load(0), BACK))])

    def test_fns_that_take_more_than_they_need(self):
        program = ([(2, 3, ("let", 2, ONE, ("fn", (2, 0, 1), 7, ("fn", (3, 3), 4, slot(2)))))], 0)
        self.assertEqual(compiled(program), ([
            (2, 3, (PUSH1, ("keep", 2), load(2), load(0), load(1), ("close", 1, 3), BACK)),
            (4, 7, (load(3), load(3), ("close", 2, 2), BACK)),
            (3, 4, (load(2), BACK)),
        ], 0))

    def test_what_kinds_would_refuse(self):
        self.assertEqual(compiled(placed(read("def main() = fn x => 1 + yes : []"))), (
            [(0, 0, (("close", 1, 0), BACK)),
             (1, 1, (PUSH1, ("push", True), ("add",), ("none",), ("cons",), BACK))], 0))


if __name__ == "__main__":
    unittest.main()
