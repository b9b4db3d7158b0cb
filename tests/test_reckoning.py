"""Points 14 and 15: answers, and what counts."""

import unittest

from evaluating import evaluated
from filling import any_kinded_program
from helpers import DeepCallsTest, seeded
from speakmill.checking import kinded
from speakmill.numbers import GREATEST
from speakmill.reading import read
from speakmill.reckoning import reckoned
from speakmill.scopes import placed

GREAT, NOUGHT, HEAD, TAIL = [("refused", word) for word in ("great", "nought", "head", "tail")]
DRY, DEEP = ("dry",), ("deep",)
ONE, X = ("number", 1), ("name", "x")

# A product that is too great, a quotient by nought, and so on, each as a term of a number.
REFUSED = {"(999999999999 * 999999999999 * 999999999999 * 999999999999)": GREAT, "(1 / 0)": NOUGHT,
           "(head [])": HEAD, "(head (tail []))": TAIL}
DOWN = "def main(n) = down(n) def down(n) = if n < 1 then 0 else 1 + down(n - 1)"


class ReckoningTest(unittest.TestCase):
    def told(self, text, numbers, most, answer):
        program = read(text)
        kinded(placed(program))
        # True is 1 to Python: so the texts are held to one another.
        self.assertEqual(repr(reckoned(program, numbers, most)), repr(answer), msg=(text, numbers, most))

    def value(self, body, value, numbers=(), most=1000):
        names = ", ".join("abcd"[:len(numbers)])
        behind = " def id(x) = x def sum(x) = if empty x then 0 else head x + sum(tail x) def boom() = 1 / 0"
        self.told(f"def main({names}) = {body}" + behind, list(numbers), most, ("value", value))

    def answer(self, body, answer, most=1000):
        self.told(f"def main() = {body} def f(x) = x def two(x, y) = x + y def g() = g()", [], most, answer)


class ValueTest(ReckoningTest):
    def test_leaves(self):
        self.value("0", 0)
        self.value("999999999999", 999999999999)
        self.value("yes", True)
        self.value("no", False)
        self.value("[]", [])
        self.value("a", -5, [-5])
        for k, name in enumerate("abcd"):
            self.value(name, [3, 1, GREATEST, -GREATEST][k], [3, 1, GREATEST, -GREATEST])

    def test_each_sign(self):
        for a in (-7, -2, -1, 0, 1, 2, 7):
            for b in (-3, -2, -1, 1, 2, 3):
                for sign, value in (("+", a + b), ("-", a - b), ("*", a * b), ("/", a // b), ("<", a < b),
                                    ("=", a == b)):
                    self.value(f"a {sign} b", value, [a, b])
        self.value("a = b", True, [4, 4])
        self.value("1 : 2 : []", [1, 2])
        self.value("a : b : []", [7, 8], [7, 8])
        self.value("1 - 2 - 3", -4)
        self.value("100 / 10 / 2", 5)

    def test_each_word(self):
        self.value("head (1 : 2 : [])", 1)
        self.value("tail (1 : 2 : 3 : [])", [2, 3])
        self.value("tail (1 : [])", [])
        self.value("empty []", True)
        self.value("empty (1 : [])", False)
        self.value("not yes", False)
        self.value("not no", True)

    def test_if_let_fn_do_and_call(self):
        self.value("if yes then 1 else 2", 1)
        self.value("if no then 1 else 2", 2)
        self.value("let x = 3 in x * x", 9)
        self.value("let x = 3 in let x = x + 1 in x", 4)
        self.value("let x = 3 in (let x = 4 in x) * 10 + x", 43)
        self.value("(fn x => x + 1) ! 5", 6)
        self.value("(fn x => fn y => x - y) ! 5 ! 3", 2)
        self.value("let y = 10 in let f = fn x => x + y in let y = 20 in f ! y", 30)
        self.value("id(7)", 7)
        self.value("sum(1 : 2 : 3 : [])", 6)
        self.value("let k = 10 in (fn x => (fn k => k + x) ! 1 + k) ! 5", 16)

    def test_a_function_sees_its_own_parameters_alone(self):
        self.told("def main(x) = let y = 5 in f(y) * 100 + x * 10 + y def f(x) = let y = x + 1 in y", [3], 10,
                  ("value", 635))

    def test_lists_within_lists(self):
        self.value("(1 : []) : [] : (2 : 3 : []) : []", [[1], [], [2, 3]])
        self.value("((yes : []) : []) : []", [[[True]]])
        self.value("(1 < 2) : (2 < 1) : []", [True, False])
        self.value("tail ((1 : []) : [])", [])
        self.value("[] : []", [[]])
        self.value("head ((1 : 2 : []) : [])", [1, 2])

    def test_kinds_of_python(self):
        told = reckoned(read("def main() = (1 : []) : []"), [], 0)
        self.assertIs(type(told), tuple)
        self.assertIs(type(told[1]), list)
        self.assertIs(type(told[1][0]), list)
        self.assertIs(reckoned(read("def main() = 1 = 1"), [], 0)[1], True)
        self.assertIs(type(reckoned(read("def main() = 1 / 1"), [], 0)[1]), int)

    def test_lists_are_the_askers_own(self):
        program = read("def main(n) = let x = n : [] in x : x : []")
        numbers = [4]
        kept = repr(program)
        first = reckoned(program, numbers, 5)
        numbers.append(7)
        second = reckoned(program, [4], 5)
        first[1][0].append("more")
        self.assertEqual(first, ("value", [[4, "more"], [4]]))
        first[1].pop()
        self.assertEqual(second, ("value", [[4], [4]]))
        self.assertEqual(reckoned(program, [4], 5), ("value", [[4], [4]]))
        self.assertEqual(repr(program), kept)
        self.assertEqual(numbers, [4, 7])


class RefusedTest(ReckoningTest):
    def test_each_word(self):
        for text, answer in REFUSED.items():
            self.answer(text, answer)
        self.answer("tail []", TAIL)
        self.answer("head tail (1 : [])", HEAD)
        self.answer("tail tail (1 : [])", TAIL)

    def test_at_the_greatest(self):
        text = "def main(a, b) = a {} b"
        for sign, a, b in (("+", GREATEST, 1), ("-", -GREATEST, 1), ("*", GREATEST, 2), ("*", GREATEST, -2)):
            self.told(text.replace("{}", sign), [a, b], 0, GREAT)
        for sign, a, b, told in (("+", GREATEST, 0, GREATEST), ("-", -GREATEST, -1, 1 - GREATEST),
                                 ("*", GREATEST, -1, -GREATEST), ("/", -GREATEST, 1, -GREATEST)):
            self.told(text.replace("{}", sign), [a, b], 0, ("value", told))

    def test_the_first_one_is_told(self):
        for one, answer in REFUSED.items():
            for other in REFUSED:
                for term in (f"{one} + {other}", f"{one} / {other}", f"{one} < {other}", f"{one} : {other} : []",
                             f"head ({one} : {other} : [])", f"if {one} < 1 then {other} else {other}",
                             f"let x = {one} in {other}", f"(fn x => {other}) ! {one}", f"two({one}, {other})",
                             f"(let x = 1 in {one}) + {other}", f"{one} + g()", f"two({one}, g())",
                             f"if yes then {one} else {other}", f"if no then {other} else {one}",
                             f"(if {one} = 1 then fn x => x else fn x => 1) ! {other}",
                             f"(fn x => {one} + {other}) ! 1", f"let x = fn y => {other} in {one}"):
                    self.answer(term, answer)

    def test_a_sign_is_done_behind_its_parts(self):
        for one, answer in REFUSED.items():
            self.answer(f"{one} / 0", answer)
            self.answer(f"1 / {one}", answer)
            self.answer(f"1 / 0 + {one}", NOUGHT)
            self.answer(f"1 / (0 * {one})", answer)

    def test_what_is_not_wanted_is_not_reckoned(self):
        for one in list(REFUSED) + ["g()", "((fn x => g()) ! 1)"]:
            self.answer(f"if yes then 7 else {one}", ("value", 7))
            self.answer(f"if no then {one} else 7", ("value", 7))
            self.answer(f"let f = fn x => {one} in 7", ("value", 7))
            self.answer(f"if 1 < 2 then if 2 < 1 then {one} else 7 else {one}", ("value", 7))

    def test_what_is_not_used_is_reckoned(self):
        for one, answer in REFUSED.items():
            self.answer(f"let x = {one} in 7", answer)
            self.answer(f"(fn x => 7) ! {one}", answer)
            self.answer(f"two(1, {one}) * 0", answer)
            self.answer(f"empty ({one} : [])", answer)
            self.answer(f"head (1 : {one} : [])", answer)

    def test_refused_ahead_of_a_call(self):
        for one, answer in REFUSED.items():
            self.answer(f"f({one})", answer, most=0)
            self.answer(f"(fn x => x) ! {one}", answer, most=0)
            self.answer(f"{one} + f(1)", answer, most=0)
            self.answer(f"f(1) + {one}", DRY, most=0)
            self.answer(f"f(1) + {one}", answer, most=1)


class CountTest(ReckoningTest):
    """Point 15."""

    def counts(self, body, calls, value, behind=""):
        text = f"def main() = {body} def f(x) = x def g(x) = f(x) + f(x) def none() = 3 {behind}"
        self.told(text, [], calls, ("value", value))
        self.told(text, [], calls + 1, ("value", value))
        self.told(text, [], 1000, ("value", value))
        for most in range(calls):
            self.told(text, [], most, DRY)

    def test_what_counts(self):
        self.counts("1 + 2 * 3", 0, 7)
        self.counts("let f = fn x => x in 1", 0, 1)
        self.counts("f(1)", 1, 1)
        self.counts("none()", 1, 3)
        self.counts("(fn x => x) ! 1", 1, 1)
        self.counts("f(1) + f(2)", 2, 3)
        self.counts("f(f(f(1)))", 3, 1)
        self.counts("g(2)", 3, 4)
        self.counts("g(none())", 4, 6)
        self.counts("(fn x => fn y => x + y) ! 1 ! 2", 2, 3)
        self.counts("(fn x => f(x)) ! (none() + (fn y => y) ! 1)", 4, 4)
        self.counts("if f(1) < 2 then f(3) else g(4)", 2, 3)
        self.counts("h(5)", 6, 15, "def h(n) = if n < 1 then 0 else n + h(n - 1)")

    def test_nought_for_most(self):
        self.answer("7", ("value", 7), most=0)
        self.answer("f(7)", DRY, most=0)
        self.answer("g()", DRY, most=0)
        self.answer("(fn x => x) ! 7", DRY, most=0)
        self.answer("1 / 0", NOUGHT, most=0)

    def test_a_call_counts_when_its_parts_are_reckoned(self):
        # The outer call is the one too many: its parts are told first.
        self.answer("f(1 / f(0))", NOUGHT, most=1)
        self.answer("two(f(1), 1 / 0)", NOUGHT, most=1)
        self.answer("two(f(1), f(2))", DRY, most=2)
        self.answer("two(f(1), f(2))", ("value", 3), most=3)
        self.answer("(fn x => x) ! (1 / f(0))", NOUGHT, most=1)
        self.answer("(fn x => 1 / 0) ! f(0)", DRY, most=1)
        self.answer("(fn x => 1 / 0) ! f(0)", NOUGHT, most=2)

    def test_sixty_deep_and_one_more(self):
        # main is the first one, down(n) the second, down(0) has n more behind it.
        self.told(DOWN, [58], 1000, ("value", 58))
        self.told(DOWN, [59], 1000, DEEP)
        self.told(DOWN, [1000], 1000, DEEP)
        main = "def main(n) = if n < 1 then 0 else 1 + main(n - 1)"
        self.told(main, [59], 1000, ("value", 59))
        self.told(main, [60], 1000, DEEP)

    def test_deep_by_dos(self):
        text = ("def main(n) = down(n) ! n def down(n) = if n < 1 then fn x => x else "
                "let f = down(n - 1) in fn x => f ! (x + 1) + 1")
        # down is n + 1 deep below main, and so are the fns when all of those are back.
        self.told(text, [58], 1000, ("value", 174))
        self.told(text, [59], 1000, DEEP)
        fns = "def main() = " + "(fn x => " * 5 + "f(x, 53)" + ") ! 1" * 5
        fns = fns.replace(") ! 1" * 5, ") ! x" * 4 + ") ! 1")
        behind = " def f(x, n) = if n < 1 then x else f(x, n - 1)"
        self.told(fns + behind, [], 1000, ("value", 1))
        self.told(fns.replace("53", "54") + behind, [], 1000, DEEP)

    def test_the_last_term_of_a_body_is_deeper_too(self):
        text = "def main(n) = if n < 1 then 7 else main(n - 1)"
        self.told(text, [59], 1000, ("value", 7))
        self.told(text, [60], 1000, DEEP)
        text = "def main(n) = let f = fn x => x in if n < 1 then f ! 7 else main(n - 1)"
        self.told(text, [58], 1000, ("value", 7))
        self.told(text, [59], 1000, DEEP)

    def test_parts_of_a_call_are_not_within_it(self):
        text = "def main(n) = f(f(f(down(n)))) def f(x) = x def down(n) = if n < 1 then 0 else 1 + down(n - 1)"
        self.told(text, [58], 1000, ("value", 58))
        self.told(text, [59], 1000, DEEP)
        text = "def main(n) = (fn x => x) ! ((fn x => x) ! down(n)) def down(n) = if n < 1 then 0 else 1 + down(n - 1)"
        self.told(text, [58], 1000, ("value", 58))
        self.told(text, [59], 1000, DEEP)

    def test_dry_where_both_come_at_once(self):
        # 59 calls are let by; the sixtieth is both.
        self.told(DOWN, [59], 59, DRY)
        self.told(DOWN, [59], 60, DEEP)
        self.told(DOWN, [59], 58, DRY)
        self.told(DOWN, [58], 59, ("value", 58))
        self.told(DOWN, [58], 58, DRY)
        self.told("def main(n) = main(n)", [1], 59, DRY)
        self.told("def main(n) = main(n)", [1], 60, DEEP)
        dos = "def main(n) = (fn x => main(x)) ! n"
        self.told(dos, [1], 59, DRY)
        self.told(dos, [1], 60, DEEP)

    def test_calls_one_behind_the_other_come_back(self):
        text = ("def main(n) = rows(n, 40) def rows(m, n) = if m < 1 then 0 else down(n) + rows(m - 1, n) "
                "def down(n) = if n < 1 then 1 else 0 + down(n - 1)")
        for rows in (0, 1, 10, 17):
            calls = rows + 1 + rows * 41
            self.told(text, [rows], calls, ("value", rows))
            self.told(text, [rows], calls - 1, DRY)
        self.told(text, [18], 1000, ("value", 18))
        # Of the nineteenth row on down goes more than sixty deep.
        self.told(text, [19], 1000, DEEP)
        self.told(DOWN + " def twice(n) = 0", [58], 1000, ("value", 58))
        twice = "def main(n) = down(n) + down(n) + down(n + 1) def down(n) = if n < 1 then 0 else 1 + down(n - 1)"
        self.told(twice, [57], 1000, ("value", 172))
        self.told(twice, [58], 1000, DEEP)

    def test_more_than_the_greatest_most(self):
        text = "def main(n) = a(n) def a(n) = if n < 1 then 1 else a(n - 1) + a(n - 1)"
        self.told(text, [11], 4095, ("value", 2048))
        self.told(text, [11], 4094, DRY)


class AnyProgramTest(DeepCallsTest):
    """Holds reckoned to an evaluator that goes by calls of Python's."""

    def test_any_programs(self):
        chance = seeded(14)
        words = []
        for many in range(800):
            program = any_kinded_program(chance, 2 + many % 5)
            main = [function for function in program if function[1] == "main"][0]
            numbers = [chance.choice((0, 1, 2, 17, -5, GREATEST, -GREATEST)) for name in main[2]]
            for most in (0, 1, 3, 20, 1000):
                answer, calls = evaluated(program, numbers, most)
                self.assertEqual(repr(reckoned(program, numbers, most)), repr(answer))
            words.append(answer[-1] if answer[0] == "refused" else answer[0])
            if answer[0] == "value":
                self.assertEqual(reckoned(program, numbers, calls), answer)
                if calls:
                    self.assertEqual(reckoned(program, numbers, calls - 1), DRY)
        self.assertEqual(set(words), {"value", "deep", "great", "nought", "head", "tail"})
        self.assertGreater(words.count("value"), 200)


class GreatTest(ReckoningTest):
    """Nothing is refused for its size."""

    def test_deep(self):
        for wrap, leaf, answer in ((lambda term: ("two", "+", ONE, term), ONE, 3001),
                                   (lambda term: ("two", "-", term, ONE), ONE, -2999),
                                   (lambda term: ("one", "not", term), ("truth", True), True),
                                   (lambda term: ("let", "x", ("two", "+", X, ONE), term), X, 3007),
                                   (lambda term: ("let", "x", term, X), X, 7),
                                   (lambda term: ("if", ("truth", True), term, ONE), X, 7),
                                   (lambda term: ("do", ("fn", "y", ("name", "y")), term), X, 7),
                                   (lambda term: ("call", "f", (term,)), X, 7)):
            term = leaf
            for many in range(3000):
                term = wrap(term)
            program = (("def", "main", ("x",), term), ("def", "f", ("x",), X))
            self.assertEqual(reckoned(program, [7], 3000), ("value", answer))

    def test_long_lists(self):
        term = ("none",)
        for many in range(3000):
            term = ("two", ":", ("number", many), term)
        self.assertEqual(reckoned((("def", "main", (), term),), [], 0), ("value", list(reversed(range(3000)))))

    def test_lists_deep_within_lists(self):
        term = ("none",)
        for many in range(3000):
            term = ("two", ":", term, ("none",))
        told = reckoned((("def", "main", (), term),), [], 0)[1]
        for many in range(3000):
            self.assertEqual(len(told), 1)
            told = told[0]
        self.assertEqual(told, [])

    def test_calls_of_more_terms(self):
        names = tuple(f"n{k}" for k in range(50))
        body = ("two", "-", ("name", "n49"), ("name", "n0"))
        program = (("def", "f", names, body),
                   ("def", "main", (), ("call", "f", tuple(("number", k * k) for k in range(1, 51)))))
        self.assertEqual(reckoned(program, [], 1), ("value", 2499))

    def test_numbers_beyond_the_greatest(self):
        self.assertEqual(reckoned(read("def main(n) = n"), [10 ** 50], 0), ("value", 10 ** 50))
        self.assertEqual(reckoned(read("def main(n) = n + 0"), [10 ** 50], 0), GREAT)


if __name__ == "__main__":
    unittest.main()
