"""Points 10 to 12: the kinds of a placed program."""

import unittest

from filling import any_kinded_program
from helpers import refuses, seeded
from judging import kinds_by_calls
from naming import any_bound_program
from speakmill.checking import kinded
from speakmill.errors import BadKind
from speakmill.kinds import kind_text
from speakmill.reading import read
from speakmill.scopes import placed
from speakmill.trees import parts_of, size_of

NUMBER, TRUTH = ("number",), ("truth",)
ONE, NONE, X = ("number", 1), ("none",), ("name", "x")


def kinds_of(text):
    return kinded(placed(read(text)))


def texts(kinds):
    return [kind_text(kind) for kind in kinds]


def listed(kind, many):
    for one in range(many):
        kind = ("list", kind)
    return kind


def wrapped(term, wrap, many):
    for one in range(many):
        term = wrap(term)
    return term


def into_list(term):
    return ("two", ":", term, NONE)


def head_of(term):
    return ("one", "head", term)


def slot(k):
    return ("slot", k)


def functions(*given):
    """A placed program of these functions, and of main if none of them is main."""
    if all(one[0] != "main" for one in given):
        given += (("main", (), ONE),)
    return placed(tuple(("def", name, names, body) for name, names, body in given))


class CheckingTest(unittest.TestCase):
    def signature(self, text, *wanted, number=0):
        """The last one of wanted is what the function tells, the others are its parameters."""
        taken, told, terms = kinds_of(text)[number]
        self.assertEqual(tuple(texts(taken)) + (kind_text(told),), wanted, msg=text)
        self.assertEqual(terms[0], told)

    def refused(self, text):
        refuses(self, kinds_of, text, refusal=BadKind)

    def refused_placed(self, program):
        refuses(self, kinded, program, refusal=BadKind)


class RuleTest(CheckingTest):
    """Point 10."""

    def of(self, text, *wanted):
        """What a function f tells, which has parameters a, b and c; main is behind it."""
        self.signature(f"def f(a, b, c) = {text} def g() = yes def h(x, y) = if x then y + 1 else 2 def main() = 1",
                       *wanted)

    def test_numbers_truths_and_none(self):
        self.of("7", "number", "number", "number", "number")
        self.of("yes", "number", "number", "number", "truth")
        self.of("no", "number", "number", "number", "truth")
        self.of("[]", "number", "number", "number", "list of number")

    def test_none_is_of_any_kind(self):
        self.of("yes : []", "number", "number", "number", "list of truth")
        self.of("[] : []", "number", "number", "number", "list of (list of number)")
        self.of("(fn x => not x) : []", "number", "number", "number", "list of (fn truth to truth)")
        self.of("if empty (1 : []) then yes : [] else []", "number", "number", "number", "list of truth")

    def test_names(self):
        self.of("a", *["number"] * 4)
        self.of("if a then b else c", "truth", "number", "number", "number")
        self.of("let x = not a in b", "truth", "number", "number", "number")

    def test_each_sign(self):
        for sign in "+-*/":
            self.of(f"a {sign} b", "number", "number", "number", "number")
            self.of(f"if c then a {sign} b else a", "number", "number", "truth", "number")
        for sign in "<=":
            self.of(f"a {sign} b", "number", "number", "number", "truth")
        self.of("a : b", "number", "list of number", "number", "list of number")
        self.of("a : b : c", "number", "number", "list of number", "list of number")
        self.of("yes : b", "number", "list of truth", "number", "list of truth")
        self.of("a : yes : c", "truth", "number", "list of truth", "list of truth")
        self.of("(a : b) : c", "number", "list of number", "list of (list of number)", "list of (list of number)")

    def test_a_sign_takes_numbers(self):
        for sign in "+-*/<=":
            for side in (f"head a {sign} 1", f"1 {sign} head a"):
                self.of(side, "list of number", "number", "number", "truth" if sign in "<=" else "number")
            # What the kind would be without the sign is list of truth.
            self.refused(f"def main() = 1 def f(a) = if head a then 1 {sign} head a else 1 {sign} 1")

    def test_each_word(self):
        self.of("head a", "list of number", "number", "number", "number")
        self.of("not head a", "list of truth", "number", "number", "truth")
        self.of("head head a + 1", "list of (list of number)", "number", "number", "number")
        self.of("tail a", "list of number", "number", "number", "list of number")
        self.of("yes : tail a", "list of truth", "number", "number", "list of truth")
        self.of("head tail a + b", "list of number", "number", "number", "number")
        self.of("empty a", "list of number", "number", "number", "truth")
        self.of("empty head a", "list of (list of number)", "number", "number", "truth")
        self.of("not a", "truth", "number", "number", "truth")

    def test_if(self):
        self.of("if a then b else c", "truth", "number", "number", "number")
        self.of("if a then b else yes", "truth", "truth", "number", "truth")
        self.of("if a then yes else b", "truth", "truth", "number", "truth")
        self.of("not (if a then b else c)", "truth", "truth", "truth", "truth")
        self.of("if a then b else 1 : c", "truth", "list of number", "list of number", "list of number")

    def test_let(self):
        self.of("let x = a in x + 1", "number", "number", "number", "number")
        self.of("let x = a in not x", "truth", "number", "number", "truth")
        self.of("let x = a : [] in b : x", *["number"] * 3, "list of number")
        self.of("let x = yes in a", *["number"] * 4)
        self.of("let x = yes in let x = 1 in x + a", *["number"] * 4)
        self.of("let x = a in let y = x in if y then b else c", "truth", "number", "number", "number")

    def test_fn_and_do(self):
        self.of("fn x => x", *["number"] * 3, "fn number to number")
        self.of("fn x => not x", *["number"] * 3, "fn truth to truth")
        self.of("fn x => x < a", *["number"] * 3, "fn number to truth")
        self.of("fn x => if x then a else b : c", "list of number", "number", "list of number",
                "fn truth to (list of number)")
        self.of("fn x => fn y => x : y", *["number"] * 3, "fn number to (fn (list of number) to (list of number))")
        self.of("a ! b", "fn number to number", "number", "number", "number")
        self.of("not (a ! b)", "fn number to truth", "number", "number", "truth")
        self.of("a ! yes ! b + 1", "fn truth to (fn number to number)", "number", "number", "number")
        self.of("if b then a ! b else c", "fn truth to number", "truth", "number", "number")
        self.of("fn x => x ! a + 1", *["number"] * 3, "fn (fn number to number) to number")

    def test_calls(self):
        self.of("g()", *["number"] * 3, "truth")
        self.of("h(a, b)", "truth", "number", "number", "number")
        self.of("h(a < b, c)", *["number"] * 4)

    def test_a_call_ahead_of_its_function_and_behind_it(self):
        for order in ("def f(a, b) = g(a, b) def g(x, y) = if x then y : [] else [] def main() = 1",
                      "def g(x, y) = if x then y : [] else [] def f(a, b) = g(a, b) def main() = 1",
                      "def main() = 1 def g(x, y) = if x then y : [] else [] def f(a, b) = g(a, b)"):
            for number in range(3):
                if read(order)[number][1] != "main":
                    self.signature(order, "truth", "number", "list of number", number=number)

    def test_a_call_says_what_its_function_takes_and_tells(self):
        for order in ("def main() = f(yes) + 1 def f(x) = g(x) def g(x) = f(x)",
                      "def g(x) = f(x) def f(x) = g(x) def main() = f(yes) + 1",
                      "def f(x) = g(x) def main() = g(yes) + 1 def g(x) = f(x)"):
            for number in range(3):
                if read(order)[number][1] != "main":
                    self.signature(order, "truth", "number", number=number)
        self.signature("def main() = g(f(yes : [])) def f(x) = x def g(y) = 1", "list of truth", "list of truth",
                       number=1)
        self.signature("def main() = g(f(yes : [])) def f(x) = x def g(y) = 1", "list of truth", "number", number=2)

    def test_a_function_called_by_itself(self):
        self.signature("def f(x, y) = if empty x then y else f(tail x, not head x : y) def main() = 1",
                       "list of truth", "list of truth", "list of truth")
        self.signature("def f(x, y) = if empty x then y else f(y, x) def main() = 1", *["list of number"] * 3)
        self.signature("def f(x, y) = if x < 1 then 0 else f(y, x) def main() = 1", *["number"] * 3)
        self.signature("def f(x) = f(f(not x)) def main() = 1", "truth", "truth")

    def test_each_call_has_the_same_kinds(self):
        same = "def f(x) = x : [] "
        self.signature(same + "def main() = head f(1) + head f(2)", "number", "list of number")
        self.refused(same + "def main() = if head f(yes) then head f(2) else 1")
        self.refused("def main() = if head f(yes) then head f(2) else 1 " + same)
        self.refused(same + "def g() = f(yes) def main() = head f(1)")
        self.refused("def main() = head f(1) def g() = f(yes) " + same)
        self.refused("def f(x) = if yes then 1 else g(f(yes)) def g(y) = f(y) def main() = 1")
        self.refused("def f(x) = if x < 1 then 0 else f(yes) def main() = 1")

    def test_each_fn_has_one_kind(self):
        self.signature("def main() = let f = fn x => x in f ! 1 + f ! 2", "number")
        self.refused("def main() = let f = fn x => x in if f ! yes then f ! 1 else 2")
        self.refused("def main() = let e = [] in let a = 1 : e in let b = yes : e in 1")
        self.signature("def main() = let a = 1 : [] in let b = yes : [] in 1", "number")

    def test_the_parameters_of_main_are_numbers(self):
        for names in ("a", "a, b", "a, b, c", "a, b, c, d"):
            many = len(names.split(", "))
            self.signature(f"def main({names}) = yes", *["number"] * many, "truth")
            for name in names.split(", "):
                self.refused(f"def main({names}) = not {name}")
                self.refused(f"def main({names}) = empty {name}")
                self.refused(f"def main({names}) = {name} ! 1")
                self.refused(f"def main({names}) = f({name}) def f(x) = if x then 1 else 2")
                given = ", ".join("yes" if one == name else "1" for one in names.split(", "))
                self.refused(f"def f() = main({given}) def main({names}) = 1")
        self.signature("def f(x) = main(x) def main(a) = yes", "number", "truth")

    def test_main_at_any_place(self):
        for at in range(4):
            program = ["def f(x) = not x", "def g(x) = x : []", "def h() = fn x => x"]
            program.insert(at, "def main(x, y) = x : g(y)")
            kinds = kinds_of(" ".join(program))
            self.assertEqual(kinds[at][:2], ((NUMBER, NUMBER), ("list", NUMBER)))
            self.assertEqual(kinds[0 if at else 1][:2], ((TRUTH,), TRUTH))
            program[at] = "def main(x, y) = x : g(not y)"
            self.refused(" ".join(program))
            program[at] = "def main() = h()"
            self.refused(" ".join(program))

    def test_a_parameter_of_another_function_may_be_of_any_kind(self):
        for text, kind in (("not x", "truth"), ("empty x", "list of number"), ("x ! 1", "fn number to number")):
            self.assertEqual(texts(kinds_of(f"def main(x) = x def f(x) = {text}")[1][0]), [kind])


class RefusedTest(CheckingTest):
    """Point 11."""

    def each_refused(self, *bodies):
        for body in bodies:
            self.refused(f"def main() = {body} def f(x, y) = x + (if y then 1 else 2) def g() = yes")
            self.refused(f"def f(x, y) = x + (if y then 1 else 2) def main() = 1 def g() = yes def h() = {body}")
            self.refused(f"def h() = fn n => {body} def f(x, y) = x + (if y then 1 else 2) def main() = 1 "
                         "def g() = yes")

    def test_signs(self):
        for sign in "+-*/<=":
            for other in ("yes", "[]", "(1 : [])", "(fn x => x)", "(fn x => 1)", "(1 < 2)", "g()"):
                self.each_refused(f"{other} {sign} 1", f"1 {sign} {other}", f"{other} {sign} {other}")
        for sign in "+-*/":
            self.each_refused(f"not (1 {sign} 2)", f"empty (1 {sign} 2)", f"(1 {sign} 2) ! 1",
                              f"if 1 {sign} 2 then 1 else 2")
        for sign in "<=":
            self.each_refused(f"(1 {sign} 2) + 1", f"empty (1 {sign} 2)", f"(1 {sign} 2) ! 1")

    def test_cons(self):
        self.each_refused("1 : 2", "1 : yes", "yes : no", "1 : fn x => x", "1 : yes : []", "yes : 1 : []",
                          "[] : 1 : []", "1 : [] : []", "1 : (1 : []) : []", "(fn x => x + 1) : 1 : []",
                          "(fn x => x + 1) : (fn x => not x) : []", "(1 : []) + 1", "not (yes : [])", "(1 : []) ! 1",
                          "if yes : [] then 1 else 2", "not head (1 : [])", "head (yes : []) + 1")

    def test_words(self):
        for word in ("head", "tail", "empty"):
            self.each_refused(f"{word} 1", f"{word} yes", f"{word} (fn x => x)", f"{word} g()")
        self.each_refused("not 1", "not []", "not (fn x => x)", "(not yes) + 1", "empty (not yes)",
                          "empty [] + 1", "empty empty []", "not tail (yes : [])", "tail (1 : []) + 1",
                          "yes : tail (1 : [])", "1 : head (1 : [])")

    def test_if(self):
        self.each_refused("if 1 then 1 else 2", "if [] then 1 else 2", "if fn x => x then 1 else 2",
                          "if yes then 1 else no", "if yes then no else 1", "if yes then [] else 1",
                          "if yes then 1 else fn x => x", "if yes then 1 : [] else yes : []",
                          "not (if yes then 1 else 2)", "(if yes then no else yes) + 1",
                          "if yes then fn x => x + 1 else fn x => if x then 1 else 2")

    def test_let(self):
        self.each_refused("let x = 1 in not x", "let x = yes in x + 1", "not (let x = yes in 1)",
                          "(let x = 1 in yes) + 1", "let x = 1 in let x = yes in x + 1", "let x = [] in x + 1",
                          "let x = not 1 in 2", "let x = 1 in 2 + yes", "let x = fn y => y in x + 1")

    def test_fn_and_do(self):
        self.each_refused("(fn x => x + 1) + 1", "not fn x => x", "empty (fn x => x)", "1 ! 2", "yes ! 1", "[] ! 1",
                          "(1 : []) ! 1", "(fn x => x + 1) ! yes", "(fn x => not x) ! 1", "not ((fn x => x + 1) ! 1)",
                          "(fn x => not x) ! yes + 1", "(fn x => x) ! 1 ! 2", "(fn x => fn y => x + y) ! 1 ! yes",
                          "(fn x => fn y => x + y) ! 1 + 2", "fn x => 1 + yes", "fn x => if x then x + 1 else 2",
                          "let f = fn x => x ! 1 in f ! fn y => if y then 1 else 2")

    def test_calls(self):
        self.each_refused("f(yes, yes)", "f(1, 1)", "f(yes, 1)", "f([], yes)", "f(1, [])", "f(fn x => x, yes)",
                          "f(1, fn x => x)", "not f(1, yes)", "empty f(1, yes)", "f(1, yes) ! 1", "g() + 1",
                          "empty g()", "g() ! 1", "f(1 + yes, yes)")

    def test_each_function_counts(self):
        for at in range(4):
            program = ["def main() = 1", "def f() = 1", "def g(x) = x", "def h() = yes"]
            self.assertEqual(len(kinds_of(" ".join(program))), 4)
            program[at] = program[at].split("=")[0] + "= 1 + yes"
            self.refused(" ".join(program))

    def test_what_a_function_takes_is_used_in_two_ways(self):
        self.refused("def main() = 1 def f(x) = if x then x else 1")
        self.refused("def main() = 1 def f(x) = if x < 1 then head x else 1")
        self.refused("def main() = 1 def f(x, y) = (x ! y) + (if y then x ! 1 else 2)")

    def test_a_kind_that_is_a_part_of_itself(self):
        for text in ("def f(x) = x ! x", "def f(x) = x : x", "def f(x) = head x : head x", "def f(x) = x : tail x",
                     "def f() = fn x => x ! x", "def f() = (fn x => x ! x) ! (fn x => x ! x)",
                     "def f(x) = if yes then x else x : []", "def f(x) = if yes then x else fn y => x",
                     "def f() = let x = fn y => y in x ! x", "def f(x) = let y = x in y : x",
                     "def f(x) = if yes then head x else x", "def f(x) = if yes then tail x else head x",
                     "def f(x, y) = (x ! y) + (y ! x)", "def f(x, y) = if yes then x : y else y : x"):
            self.refused(text + " def main() = 1")
            self.refused("def main() = 1 " + text)

    def test_a_kind_that_is_a_part_of_itself_by_way_of_calls(self):
        for text in ("def f() = f() : []", "def f() = fn x => f()", "def f(x) = f(x : [])", "def f(x) = f(fn y => x)",
                     "def f(x) = f(head x)", "def f() = g() : [] def g() = f()", "def f() = g() def g() = f() : []",
                     "def f(x) = g(x : []) def g(x) = f(x)", "def f(x) = g(x) def g(x) = h(x : []) def h(x) = f(x)",
                     "def f(x) = if yes then x else f(x) : []", "def f(x) = if yes then x else fn y => f(y)",
                     "def f(x, y) = f(y, x : [])", "def f(x) = x def g(y) = f(y) : y",
                     "def f(x) = x def g(y) = f(y) ! f(f(y))"):
            self.refused(text + " def main() = 1")
            self.refused("def main() = 1 " + text)
        self.refused("def main() = main() : []")

    def test_what_comes_close_to_it(self):
        self.signature("def f(x, y) = f(y, x) def main() = 1", "number", "number", "number")
        self.signature("def f(x) = f(f(x)) def main() = 1", "number", "number")
        self.signature("def f(x) = g(x : []) def g(x) = f(head x) def main() = 1", "number", "number")
        self.signature("def f(x) = f(head (x : [])) def main() = 1", "number", "number")
        self.signature("def f(x, y) = (x ! y) + (x ! y) def main() = 1", "fn number to number", "number", "number")

    def test_main_that_tells_an_fn(self):
        for body in ("fn x => x", "fn x => yes", "(fn x => x) : []", "tail ((fn x => x) : [])",
                     "((fn x => x) : []) : []", "let f = fn x => x in f", "if yes then fn x => x else fn y => 1",
                     "f()", "f() : []", "g() ! 1", "head (g() : [])", "(fn x => fn y => x) ! 1",
                     "if yes then [] else f() : []", "if yes then [] else (f() : []) : []"):
            self.refused(f"def main() = {body} def f() = fn x => x def g() = fn x => fn y => x")
            self.assertEqual(len(kinds_of(f"def main() = 1 def h() = {body} def f() = fn x => x "
                                          "def g() = fn x => fn y => x")), 4)
        self.refused("def f(x) = x def main() = f(fn x => x)")
        self.refused("def f() = main() def main() = f() def g() = main() ! 1")

    def test_main_that_has_fns_but_tells_none(self):
        for body in ("(fn x => x) ! 1", "let f = fn x => x in 1", "f() ! 1", "empty (f() : [])",
                     "let l = (fn x => x : []) : [] in (head l) ! 1"):
            self.assertEqual(len(kinds_of(f"def main() = {body} def f() = fn x => x")), 2)


class LongTest(CheckingTest):
    """Point 11: 60 words, and one more."""

    def test_a_parameter(self):
        for many, is_let_by in ((1, True), (58, True), (59, True), (60, False), (61, False), (300, False)):
            body = ("two", "+", wrapped(X, head_of, many), ONE)
            program = functions(("f", ("x",), body))
            if is_let_by:
                self.assertEqual(kinded(program)[0][:2], ((listed(NUMBER, many),), NUMBER))
            else:
                self.refused_placed(program)

    def test_the_second_parameter(self):
        for many, is_let_by in ((59, True), (60, False)):
            body = ("two", "+", wrapped(X, head_of, many), ("name", "y"))
            for names in (("y", "x"), ("x", "y"), ("y", "z", "x")):
                program = functions(("main", (), ONE), ("f", names, body))
                if is_let_by:
                    self.assertIn(listed(NUMBER, many), kinded(program)[1][0])
                else:
                    self.refused_placed(program)

    def test_what_a_function_tells(self):
        for many, is_let_by in ((1, True), (59, True), (60, False), (61, False), (300, False)):
            for name, number in (("f", 0), ("main", 0)):
                program = functions((name, (), wrapped(ONE, into_list, many)))
                if is_let_by:
                    self.assertEqual(kinded(program)[number][1], listed(NUMBER, many))
                else:
                    self.refused_placed(program)

    def test_a_term(self):
        for many, is_let_by in ((59, True), (60, False), (300, False)):
            long = wrapped(ONE, into_list, many)
            inner = ("let", "y", long, ONE)
            for body in (inner, ("one", "empty", long), ("if", ("one", "empty", long), ONE, ONE),
                         ("fn", "x", inner), ("fn", "x", ("fn", "z", ("two", "+", ONE, inner))),
                         ("fn", "x", ("one", "empty", long)), ("do", ("fn", "x", inner), ONE)):
                program = functions(("f", (), body))
                if is_let_by:
                    self.assertIn(listed(NUMBER, many), kinded(program)[0][2])
                else:
                    self.refused_placed(program)

    def test_an_fn_counts_what_it_takes_and_tells(self):
        for many, is_let_by in ((57, True), (58, True), (59, False), (60, False)):
            told = wrapped(ONE, into_list, many - 1)
            taken = ("two", "+", wrapped(X, head_of, many - 1), ONE)
            for body, kind in ((("fn", "x", told), ("fn", NUMBER, listed(NUMBER, many - 1))),
                               (("fn", "x", taken), ("fn", listed(NUMBER, many - 1), NUMBER))):
                program = functions(("f", (), body))
                if is_let_by:
                    self.assertEqual(kinded(program)[0][1], kind)
                else:
                    self.refused_placed(program)

    def test_the_name_of_an_fn_within(self):
        for many, is_let_by in ((57, True), (58, False)):
            inner = ("fn", "x", ("two", "+", wrapped(X, head_of, many), ONE))
            program = functions(("f", (), ("let", "y", inner, ONE)))
            if is_let_by:
                self.assertIn(("fn", listed(NUMBER, many), NUMBER), kinded(program)[0][2])
            else:
                self.refused_placed(program)

    def test_long_by_way_of_texts(self):
        # Each function makes its list 14 longer, or the last one less.
        for last, is_let_by in ((3, True), (4, False)):
            steps = "(" * 13 + "x" + " : [])" * 13 + " : []"
            end = "(" * (last - 1) + "x" + " : [])" * (last - 1) + " : []"
            text = (f"def a(x) = {steps} def b(x) = {steps} def c(x) = {steps} def d(x) = {steps} "
                    f"def e(x) = {end} def main(n) = empty e(d(c(b(a(n)))))")
            if is_let_by:
                self.assertEqual(kinds_of(text)[4][1], listed(NUMBER, 59))
            else:
                self.refused(text)

    def test_kinds_that_grow_fast(self):
        # Each name is an fn from the kind of the one ahead of it to that: 1, 3, 7, 15, 31, 63 words.
        for many, is_let_by in ((4, True), (5, False), (200, False)):
            body = ONE
            for k in reversed(range(many)):
                body = ("let", f"a{k + 1}", ("fn", "x", ("if", ("truth", True), X, ("name", f"a{k}"))), body)
            program = functions(("f", (), ("let", "a0", ONE, body)))
            if is_let_by:
                kind = wrapped(NUMBER, lambda inner: ("fn", inner, inner), many)
                self.assertIn(kind, kinded(program)[0][2])
            else:
                self.refused_placed(program)


class OpenTest(CheckingTest):
    """Point 11: a kind that the rules leave open is number."""

    def test_functions_that_nobody_calls(self):
        self.signature("def f(x, y) = 1 def main() = 1", "number", "number", "number")
        self.signature("def f(x, y) = y def main() = 1", "number", "number", "number")
        self.signature("def f() = [] def main() = 1", "list of number")
        self.signature("def f() = fn x => x def main() = 1", "fn number to number")
        self.signature("def f() = fn x => fn y => y : [] def main() = 1",
                       "fn number to (fn number to (list of number))")
        self.signature("def f() = f() def main() = 1", "number")
        self.signature("def f(x) = g(x) def g(x) = f(x) def main() = 1", "number", "number")
        self.signature("def f(x, y) = x ! y def main() = 1", "fn number to number", "number", "number")
        self.signature("def f(x) = head x def main() = 1", "list of number", "number")

    def test_what_main_tells(self):
        self.signature("def main() = []", "list of number")
        self.signature("def main() = [] : []", "list of (list of number)")
        self.signature("def main() = main()", "number")
        self.signature("def main() = head []", "number")
        self.signature("def main() = f() def f() = main()", "number")
        self.signature("def main() = (fn x => x) ! (head [])", "number")

    def test_names_that_are_not_used(self):
        taken, told, terms = kinds_of("def main() = let x = [] in let f = fn y => 1 in 2")[0]
        self.assertEqual(texts(terms), ["number", "list of number", "number", "fn number to number", "number",
                                        "number"])
        self.signature("def main() = f(1, yes) def f(x, y) = 1", "number", "truth", "number", number=1)

    def test_open_ones_within_terms(self):
        self.assertEqual(texts(kinds_of("def main() = empty []")[0][2]), ["truth", "list of number"])
        self.assertEqual(texts(kinds_of("def main() = empty tail ([] : [])")[0][2]),
                         ["truth", "list of (list of number)", "list of (list of number)", "list of number",
                          "list of (list of number)"])
        self.assertEqual(texts(kinds_of("def main() = (fn x => 1) ! (head [])")[0][2]),
                         ["number", "fn number to number", "number", "number", "list of number"])


class ToldTest(CheckingTest):
    """Point 12."""

    def terms(self, text, *wanted, number=0):
        self.assertEqual(texts(kinds_of(text)[number][2]), list(wanted), msg=text)

    def test_the_order_of_each_form(self):
        self.terms("def main() = 1", "number")
        self.terms("def main() = yes", "truth")
        self.terms("def main() = []", "list of number")
        self.terms("def main(x) = x", "number")
        self.terms("def main() = 1 < 2", "truth", "number", "number")
        self.terms("def main() = yes : []", "list of truth", "truth", "list of truth")
        self.terms("def main() = empty (yes : [])", "truth", "list of truth", "truth", "list of truth")
        self.terms("def main() = if yes then [] else 1 : []",
                   "list of number", "truth", "list of number", "list of number", "number", "list of number")
        self.terms("def main() = let x = yes in 1 : []", "list of number", "truth", "list of number", "number",
                   "list of number")
        self.terms("def main() = 1 def f() = fn x => not x", "fn truth to truth", "truth", "truth", number=1)
        self.terms("def main() = (fn x => x < 1) ! 2", "truth", "fn number to truth", "truth", "number", "number",
                   "number")

    def test_calls_of_none_to_several_terms(self):
        behind = (" def a() = yes def b(x) = not x def c(x, y) = if x then y else 1 "
                  "def d(x, y, z) = if x then y + z else 1 def e(x, y, z, w) = if empty z then w ! y else x")
        self.terms("def main() = a()" + behind, "truth")
        self.terms("def main() = b(a())" + behind, "truth", "truth")
        self.terms("def main() = c(yes, 2)" + behind, "number", "truth", "number")
        self.terms("def main() = d(b(no), c(yes, 3), 4)" + behind,
                   "number", "truth", "truth", "number", "truth", "number", "number")
        self.terms("def main() = e(1, yes, 5 : [], fn x => if x then 1 else 2)" + behind,
                   "number", "number", "truth", "list of number", "number", "list of number", "fn truth to number",
                   "number", "truth", "number", "number")

    def test_fns_within_fns(self):
        self.terms("def f(a) = fn x => let y = not x in fn z => if y then a + z else 1 def main() = 1",
                   "fn truth to (fn number to number)", "fn number to number", "truth", "truth",
                   "fn number to number", "number", "truth", "number", "number", "number", "number")

    def test_lets_of_one_slot_and_unlike_kinds(self):
        text = "def main(n) = (let x = n in x) + (let y = yes in if y then 1 else 2)"
        body = placed(read(text))[0][0][2]
        self.assertEqual(body[2][1], body[3][1])
        self.terms(text, "number", "number", "number", "number", "number", "truth", "number", "truth", "number",
                   "number")
        text = "def main(n) = let x = let y = yes in if y then n : [] else [] in head x"
        body = placed(read(text))[0][0][2]
        self.assertEqual(body[1], body[2][1])
        self.terms(text, "number", "list of number", "truth", "list of number", "truth", "list of number", "number",
                   "list of number", "list of number", "number", "list of number")
        text = "def main(n) = if n < (let a = n in a) then let b = yes in not b else let c = [] in empty (n : c)"
        self.terms(text, "truth", "truth", "number", "number", "number", "number",
                   "truth", "truth", "truth", "truth",
                   "truth", "list of number", "truth", "list of number", "number", "list of number")

    def test_lets_of_one_slot_and_an_fn_that_takes_it(self):
        text = ("def main(n) = (let x = yes in (fn z => if x then z else 1) ! n)"
                " + (let y = n in (fn z => y + z) ! n) + (let w = n : [] in (fn z => head w) ! yes)")
        kinds = kinds_of(text)[0]
        self.assertEqual(texts(kinds[2]), texts(kinds_by_calls(placed(read(text)))[0][2]))
        self.assertIn(("fn", TRUTH, NUMBER), kinds[2])

    def test_a_let_in_an_fn_has_a_slot_as_one_outside(self):
        self.terms("def main(n) = let x = yes in (fn z => let y = z : [] in head y) ! (if x then n else 1)",
                   "number", "truth", "number", "fn number to number", "number", "list of number", "number",
                   "list of number", "number", "list of number", "number", "truth", "number", "number")

    def test_one_kind_for_each_term(self):
        program = read("def main(n) = if n < 1 then [] else f(fn x => g(x, n) : [], n) def f(h, n) = tail (h ! n) "
                       "def g(a, b) = let c = a * b in let d = c - a in (fn e => e + d) ! c")
        kinds = kinded(placed(program))
        self.assertEqual([len(one[2]) for one in kinds], [size_of(function[3]) for function in program])
        self.assertEqual([len(one[0]) for one in kinds], [len(function[2]) for function in program])

    def test_kinds_of_python(self):
        kinds = kinds_of("def main(n) = f(n, yes) def f(x, y) = x : []")
        self.assertIs(type(kinds), list)
        for one in kinds:
            self.assertIs(type(one), tuple)
            self.assertEqual([type(part) for part in one], [tuple, tuple, list])
        self.assertEqual(kinds, [((NUMBER,), ("list", NUMBER), [("list", NUMBER), NUMBER, TRUTH]),
                                 ((NUMBER, TRUTH), ("list", NUMBER), [("list", NUMBER), NUMBER, ("list", NUMBER)])])

    def test_what_was_told_is_changed_and_asked_again(self):
        program = placed(read("def main(n) = f(fn x => x < n) def f(g) = g ! 1"))
        kept = repr(program)
        first = kinded(program)
        text = repr(first)
        second = kinded(program)
        first[0][2].append("more")
        first[1][2][0] = None
        first.pop()
        self.assertEqual(repr(second), text)
        self.assertEqual(repr(kinded(program)), text)
        self.assertEqual(repr(program), kept)
        program[0][1] = (1, 1, ("slot", 0))
        program[0].append((0, 0, ("none",)))
        self.assertEqual(repr(second), text)

    def test_a_refusal_changes_nothing(self):
        program = placed(read("def main() = 1 + yes"))
        kept = repr(program)
        for many in range(2):
            self.refused_placed(program)
        self.assertEqual(repr(program), kept)
        self.assertEqual(kinds_of("def main() = 1")[0][1], NUMBER)


class AnyProgramTest(CheckingTest):
    """Holds kinded to what plainer ties tell."""

    def check(self, program):
        """Whether it is refused."""
        wanted = kinds_by_calls(program)
        if wanted is None:
            self.refused_placed(program)
        else:
            self.assertEqual(repr(kinded(program)), repr(wanted))
        return wanted is None

    def test_programs_whose_kinds_fit(self):
        chance = seeded(101)
        for many in range(400):
            self.assertFalse(self.check(placed(any_kinded_program(chance, 2 + many % 5))))

    def test_programs_whose_names_are_bound(self):
        chance = seeded(102)
        refused = sum(self.check(placed(any_bound_program(chance, 2 + many % 3))) for many in range(600))
        self.assertGreater(refused, 250)
        self.assertLess(refused, 550)

    def test_programs_with_another_leaf(self):
        chance = seeded(103)
        refused = 0
        for many in range(500):
            program = list(any_kinded_program(chance, 2 + many % 3))
            at = chance.randrange(len(program))
            leaf = chance.choice((ONE, ("truth", True), NONE, ("fn", "x", X)))
            program[at] = program[at][:3] + (self.with_leaf(chance, program[at][3], leaf),)
            refused += self.check(placed(tuple(program)))
        self.assertGreater(refused, 100)
        self.assertLess(refused, 400)

    def with_leaf(self, chance, term, leaf):
        """The term with a part of it, one without parts, put aside for the leaf."""
        parts = parts_of(term)
        if not parts:
            return leaf
        at = chance.randrange(len(parts))
        parts[at] = self.with_leaf(chance, parts[at], leaf)
        if term[0] == "call":
            return term[:2] + (tuple(parts),)
        return term[:len(term) - len(parts)] + tuple(parts)


class GreatTest(CheckingTest):
    """Nothing is refused for its size, nor for what an fn takes besides."""

    def test_fns_that_take_more_than_they_need(self):
        body = ("let", 2, ("one", "not", slot(0)), ("fn", (0, 1, 2), 5, ("let", 4, slot(3), (
            "fn", (3, 1, 0, 4, 2), 6, ("if", slot(2), ("two", "+", slot(5), slot(3)), slot(0))))))
        kinds = kinded(([(2, 3, body), (0, 0, ONE)], 1))
        self.assertEqual(repr(kinds), repr(kinds_by_calls(([(2, 3, body), (0, 0, ONE)], 1))))
        self.assertEqual(texts(kinds[0][0]), ["truth", "number"])
        self.assertEqual(kind_text(kinds[0][1]), "fn number to (fn number to number)")
        self.assertEqual(len(kinds[0][2]), 13)

    def test_calls_of_more_terms(self):
        names = tuple(f"n{k}" for k in range(40))
        body = ("call", "f", tuple(("truth", True) if k % 3 else ONE for k in range(40)))
        kinds = kinded(functions(("f", names, ONE), ("g", (), body)))
        self.assertEqual(kinds[0][0], tuple(TRUTH if k % 3 else NUMBER for k in range(40)))
        self.assertEqual(kinds[1][2], [NUMBER] + list(kinds[0][0]))
        wrong = ("call", "f", tuple(("name", f"n{k}") for k in range(39)) + (("none",),))
        self.refused_placed(functions(("f", names, wrong), ("g", (), body)))

    def test_many_functions(self):
        given = [(f"f{k}", ("x",), ("call", f"f{k + 1}", (X,))) for k in range(300)]
        kinds = kinded(functions(*given, ("f300", ("x",), ("one", "not", X))))
        self.assertEqual({one[:2] for one in kinds[:301]}, {((TRUTH,), TRUTH)})

    def test_deep(self):
        for wrap, leaf, kind in ((lambda term: ("two", "+", ONE, term), ONE, NUMBER),
                                 (lambda term: ("two", "*", term, ONE), ONE, NUMBER),
                                 (lambda term: ("two", ":", ONE, term), NONE, ("list", NUMBER)),
                                 (lambda term: ("one", "tail", term), NONE, ("list", NUMBER)),
                                 (lambda term: ("one", "not", term), ("truth", True), TRUTH),
                                 (lambda term: ("let", "x", ONE, term), X, NUMBER),
                                 (lambda term: ("let", "x", term, X), X, NUMBER),
                                 (lambda term: ("do", ("fn", "y", ("name", "y")), term), X, NUMBER),
                                 (lambda term: ("if", ("truth", True), term, ONE), X, NUMBER),
                                 (lambda term: ("call", "main", (term,)), X, NUMBER)):
            program = functions(("main", ("x",), wrapped(leaf, wrap, 3000)))
            kinds = kinded(program)
            self.assertEqual(kinds[0][1], kind)
            self.assertGreater(len(kinds[0][2]), 3000)

    def test_deep_and_refused(self):
        for wrap, leaf in ((into_list, ONE), (head_of, NONE), (lambda term: ("fn", "y", term), ONE),
                           (lambda term: ("two", "+", ONE, term), NONE), (lambda term: ("one", "not", term), ONE),
                           (lambda term: ("let", "x", ONE, term), ("do", X, X)),
                           (lambda term: ("do", term, ONE), X)):
            self.refused_placed(functions(("main", ("x",), wrapped(leaf, wrap, 400 if leaf == ONE else 3000))))


if __name__ == "__main__":
    unittest.main()
