"""Points 7 to 9: bindings, frames and slots."""

import unittest

from helpers import any_term, refuses, seeded
from naming import any_bound_program, any_bound_term, from_outside, placed_by_bindings, Binder
from speakmill.errors import BadName
from speakmill.reading import read
from speakmill.scopes import free_names, placed, placed_parts
from speakmill.trees import parts_of

ONE = ("number", 1)
A, X, Y = ("name", "a"), ("name", "x"), ("name", "y")


def slot(k):
    return ("slot", k)


def plus(a, b):
    return ("two", "+", a, b)


def read_term(text):
    return read("def main() = " + text)[0][3]


def placed_main(names, text):
    """main's count, size and body, for a body in these names."""
    return placed(read(f"def main({names}) = {text}"))[0][0]


def body_of(names, text):
    return placed_main(names, text)[2]


class ScopeTest(unittest.TestCase):
    def refused(self, text):
        refuses(self, placed, read(text), refusal=BadName)

    def let_by(self, text):
        placed(read(text))


class BindingTest(ScopeTest):
    """Point 7."""

    def test_names_that_are_not_bound(self):
        for term in ("x", "x + 1", "1 + x", "head x", "if x then 1 else 2", "if yes then x else 2",
                     "if yes then 1 else x", "x ! 1", "f ! x", "g(x)", "f(1, x)", "f(x, 1)", "let y = x in 1",
                     "let y = 1 in x", "fn y => x", "(fn y => y) ! x", "f(1, f(2, fn y => y + x))"):
            self.refused(f"def main(f) = {term} def f(a, b) = 1 def g(a) = 1")
            self.let_by(f"def main(f, x) = {term} def f(a, b) = 1 def g(a) = 1")

    def test_a_parameter_is_bound_in_its_own_function_alone(self):
        self.let_by("def main(x) = x def f(y) = y")
        self.refused("def main(x) = x def f(y) = x")
        self.refused("def main(x) = y def f(y) = y")
        self.refused("def f(y) = y def main() = y")
        for many in range(1, 5):
            for name in "abcd"[:many]:
                self.let_by(f"def main({', '.join('abcd'[:many])}) = {name}")
            self.refused(f"def main({', '.join('abcd'[:many])}) = e")

    def test_a_let_binds_in_its_b_alone(self):
        self.let_by("def main() = let x = 1 in x")
        self.refused("def main() = let x = x in x")
        self.refused("def main() = let x = x in 1")
        self.refused("def main() = (let x = 1 in x) + x")
        self.refused("def main() = x + let x = 1 in x")
        self.refused("def main() = let y = (let x = 1 in x) in x")
        self.refused("def main() = let x = fn y => x in 1")
        self.let_by("def main() = let x = 1 in let x = x in x")
        self.refused("def f() = let x = 1 in x def main() = x")

    def test_an_fn_binds_in_its_a_alone(self):
        self.let_by("def main() = fn x => x")
        self.refused("def main() = (fn x => x) ! x")
        self.refused("def main() = x ! fn x => x")
        self.refused("def main() = (fn x => x) : x")
        self.let_by("def main() = fn x => fn y => x + y")
        self.refused("def main() = fn x => (fn y => x + y) ! y")

    def test_the_innermost_binding_counts(self):
        self.assertEqual(body_of("x", "let x = x in x"), ("let", 1, slot(0), slot(1)))
        self.assertEqual(body_of("x", "fn x => x"), ("fn", (), 1, slot(0)))
        self.assertEqual(body_of("x, y", "let y = x in let x = y in x + y"),
                         ("let", 2, slot(0), ("let", 3, slot(2), plus(slot(3), slot(2)))))
        self.assertEqual(body_of("x", "(let x = 1 in x) + x"), plus(("let", 1, ONE, slot(1)), slot(0)))
        self.assertEqual(body_of("x", "(fn x => let x = x in x) ! x"),
                         ("do", ("fn", (), 2, ("let", 1, slot(0), slot(1))), slot(0)))

    def test_a_function_and_a_name_called_alike(self):
        self.assertEqual(placed(read("def f(f) = f + f(f) def main(main) = let f = main in f(f)")),
                         ([(1, 1, plus(slot(0), ("call", 0, (slot(0),)))),
                           (1, 2, ("let", 1, slot(0), ("call", 0, (slot(1),))))], 1))
        self.refused("def f(x) = f def main() = 1")
        self.refused("def main() = main")
        self.refused("def main(f) = f()")
        self.refused("def main() = let f = fn x => x in f(1)")
        self.refused("def main() = (fn f => f(1)) ! 2")

    def test_two_functions_of_one_name(self):
        self.refused("def main() = 1 def main() = 1")
        self.refused("def main() = 1 def f() = 1 def f(x) = 1")
        self.refused("def f() = 1 def main() = 1 def g() = 2 def f() = 1")
        self.let_by("def f() = 1 def main() = 1 def g() = 2 def f1() = 1")

    def test_two_parameters_of_one_name(self):
        for names in ("x, x", "x, y, x", "y, x, x", "x, x, y", "a, b, c, a", "a, b, c, c"):
            self.refused(f"def main({names}) = 1")
            self.refused(f"def main() = 1 def f({names}) = 1")
            self.refused(f"def f({names}) = 1 def main() = 1")
        self.let_by("def main(x) = 1 def f(x) = 1")

    def test_no_main(self):
        self.refused("def f() = 1")
        self.refused("def main1() = 1 def f(main) = main")
        refuses(self, placed, (), refusal=BadName)

    def test_main_at_any_place(self):
        for many in range(1, 13):
            for at in range(many):
                program = tuple(("def", "main" if k == at else f"f{k}", (), ("number", k)) for k in range(many))
                self.assertEqual(placed(program), ([(0, 0, ("number", k)) for k in range(many)], at))

    def test_calls_of_no_function(self):
        self.refused("def main() = f()")
        self.refused("def main(f) = f(f)")
        self.refused("def main() = g(1) def f(x) = x")
        self.refused("def main() = 1 def f(x) = 1 + (fn y => h(y)) ! x")

    def test_calls_of_more_or_fewer_terms(self):
        for has in range(5):
            for given in range(5):
                terms = ", ".join("1234"[:given])
                names = ", ".join("abcd"[:has])
                for text in (f"def main() = f({terms}) def f({names}) = 1",
                             f"def f({names}) = 1 def main() = let x = fn y => [] : f({terms}) in 1",
                             f"def f({names}) = f({terms}) def main() = 1"):
                    if has == given:
                        self.let_by(text)
                    else:
                        self.refused(text)

    def test_calls_of_later_functions_and_of_oneself(self):
        self.assertEqual(placed(read("def f() = g(1) def main() = main() def g(x) = f()")),
                         ([(0, 0, ("call", 2, (ONE,))), (0, 0, ("call", 1, ())), (1, 1, ("call", 0, ()))], 1))


class FreeNameTest(unittest.TestCase):
    def check(self, text, names):
        term = read_term(text)
        self.assertEqual(free_names(term), names, msg=text)

    def test_each_form(self):
        for text, names in (("1", []), ("yes", []), ("[]", []), ("x", ["x"]), ("b + a", ["a", "b"]), ("x : x", ["x"]),
                            ("head a", ["a"]), ("if c then b else a", ["a", "b", "c"]), ("f ! x", ["f", "x"]),
                            ("f()", []), ("f(f)", ["f"]), ("g(b, a, c, a)", ["a", "b", "c"]), ("fn x => x", []),
                            ("fn x => y", ["y"]), ("let x = a in x", ["a"]), ("let x = x in x", ["x"]),
                            ("let x = 1 in y", ["y"]), ("let x = y in x + z", ["y", "z"])):
            self.check(text, names)

    def test_where_a_binding_ends(self):
        self.check("(fn x => x) ! x", ["x"])
        self.check("(let x = 1 in x) + x", ["x"])
        self.check("x + (let x = 1 in x)", ["x"])
        self.check("f(fn x => x, x)", ["x"])
        self.check("fn x => (fn x => x) ! x", [])
        self.check("fn x => (let x = x in x) + x", [])
        self.check("fn x => fn y => z + x + (fn z => z)", ["z"])
        self.check("let y = fn x => x + y in y", ["y"])
        self.check("let x = let x = x in y in x", ["x", "y"])

    def test_in_the_order_of_texts(self):
        self.check("f(z, a10, a9, a)", ["a", "a10", "a9", "z"])
        self.check("fn m => z + m * b1 - b : ba", ["b", "b1", "ba", "z"])
        self.assertEqual(free_names(plus(("name", "b"), ("name", "B"))), ["B", "b"])

    def test_any_terms(self):
        chance = seeded(71)
        for many in range(400):
            term = any_term(chance, 6)
            names = sorted({one for one in ("x", "y", "f", "g1", "longname") if self.is_free(one, term)})
            self.assertEqual(free_names(term), names)

    def is_free(self, name, term):
        if term[0] == "name":
            return term[1] == name
        if term[0] == "let":
            return self.is_free(name, term[2]) or (term[1] != name and self.is_free(name, term[3]))
        if term[0] == "fn":
            return term[1] != name and self.is_free(name, term[2])
        return any(self.is_free(name, part) for part in parts_of(term))

    def test_a_new_list_each_time(self):
        term = read_term("b + a")
        first = free_names(term)
        self.assertIs(type(first), list)
        first.append("more")
        self.assertEqual(free_names(term), ["a", "b"])

    def test_deep(self):
        term = plus(X, Y)
        for many in range(5000):
            term = ("let", "x", A, term) if many % 2 else ("fn", "y", term)
        self.assertEqual(free_names(term), ["a"])


class SlotTest(unittest.TestCase):
    """Point 8."""

    def test_parameters(self):
        self.assertEqual(placed_main("a, b, c, d", "f(d, c, b, a) def f(e, f, g, h) = h"),
                         (4, 4, ("call", 1, (slot(3), slot(2), slot(1), slot(0)))))

    def test_lets_within_one_another(self):
        self.assertEqual(placed_main("a", "let b = a in let c = b in let d = c in a + b + c + d"), (
            1, 4, ("let", 1, slot(0), ("let", 2, slot(1), ("let", 3, slot(2), plus(plus(plus(
                slot(0), slot(1)), slot(2)), slot(3)))))))
        self.assertEqual(placed_main("", "let a = 1 in let b = a in b"),
                         (0, 2, ("let", 0, ONE, ("let", 1, slot(0), slot(1)))))

    def test_lets_beside_one_another(self):
        self.assertEqual(placed_main("a", "(let b = a in b) + (let c = a in c)"),
                         (1, 2, plus(("let", 1, slot(0), slot(1)), ("let", 1, slot(0), slot(1)))))
        self.assertEqual(placed_main("", "let x = 1 in (let b = x in b) + (let c = x in c)"),
                         (0, 2, ("let", 0, ONE, plus(("let", 1, slot(0), slot(1)), ("let", 1, slot(0), slot(1))))))
        self.assertEqual(placed_main("a", "(let b = a in let c = b in c) + (let d = a in d)")[1], 3)
        self.assertEqual(placed_main("a", "(let d = a in d) + (let b = a in let c = b in c)")[1], 3)

    def test_a_let_within_the_a_of_another_one(self):
        self.assertEqual(placed_main("", "let x = let y = 1 in y in x"),
                         (0, 1, ("let", 0, ("let", 0, ONE, slot(0)), slot(0))))
        self.assertEqual(placed_main("p", "let x = let y = let z = p in z in y in let w = x in w"),
                         (1, 3, ("let", 1, ("let", 1, ("let", 1, slot(0), slot(1)), slot(1)),
                                 ("let", 2, slot(1), slot(2)))))
        self.assertEqual(placed_main("p", "let x = let y = p in let z = y in z in x"),
                         (1, 3, ("let", 1, ("let", 1, slot(0), ("let", 2, slot(1), slot(2))), slot(1))))

    def test_names_bound_anew_further_in(self):
        self.assertEqual(placed_main("x", "let x = x in let x = x in let x = x in x"),
                         (1, 4, ("let", 1, slot(0), ("let", 2, slot(1), ("let", 3, slot(2), slot(3))))))
        self.assertEqual(placed_main("a", "let x = 1 in let x = a in let y = x in y"),
                         (1, 4, ("let", 1, ONE, ("let", 2, slot(0), ("let", 3, slot(2), slot(3))))))
        self.assertEqual(body_of("a, x", "let x = a in fn y => x + a"),
                         ("let", 2, slot(0), ("fn", (0, 2), 3, plus(slot(1), slot(0)))))

    def test_what_an_fn_takes_in_the_order_of_slots(self):
        self.assertEqual(body_of("a, b, c, d", "fn x => d + b"),
                         ("fn", (1, 3), 3, plus(slot(1), slot(0))))
        self.assertEqual(body_of("z, y", "fn x => y + z + x"),
                         ("fn", (0, 1), 3, plus(plus(slot(1), slot(0)), slot(2))))
        self.assertEqual(body_of("b", "let a = b in fn x => a + b"),
                         ("let", 1, slot(0), ("fn", (0, 1), 3, plus(slot(1), slot(0)))))

    def test_an_fn_takes_each_binding_once_and_nothing_else(self):
        self.assertEqual(body_of("a, b", "fn x => b + b + x + b"),
                         ("fn", (1,), 2, plus(plus(plus(slot(0), slot(0)), slot(1)), slot(0))))
        self.assertEqual(body_of("a, b", "fn x => x"), ("fn", (), 1, slot(0)))
        self.assertEqual(body_of("a, b", "fn x => 1"), ("fn", (), 1, ONE))
        self.assertEqual(body_of("a, b", "fn b => a + b"), ("fn", (0,), 2, plus(slot(0), slot(1))))

    def test_a_call_of_a_function_takes_nothing(self):
        self.assertEqual(placed_main("f", "fn x => f(x) def f(a) = a")[2], ("fn", (), 1, ("call", 1, (slot(0),))))

    def test_lets_within_an_fn(self):
        self.assertEqual(body_of("a, b", "fn x => let y = b in let z = y in x + z"),
                         ("fn", (1,), 4, ("let", 2, slot(0), ("let", 3, slot(2), plus(slot(1), slot(3))))))
        self.assertEqual(body_of("x", "fn y => let x = x in x + y"),
                         ("fn", (0,), 3, ("let", 2, slot(0), plus(slot(2), slot(1)))))
        self.assertEqual(placed_main("a", "fn x => let y = x in let z = y in z")[:2], (1, 1))
        self.assertEqual(placed_main("a", "let q = fn x => let y = x in let z = y in z in q")[:2], (1, 2))

    def test_fns_within_fns(self):
        self.assertEqual(body_of("a, b, c", "fn x => fn y => c + a + x + y"),
                         ("fn", (0, 2), 3, ("fn", (0, 1, 2), 4,
                                            plus(plus(plus(slot(1), slot(0)), slot(2)), slot(3)))))
        self.assertEqual(body_of("a, b, c", "fn x => fn y => b"), ("fn", (1,), 2, ("fn", (0,), 2, slot(0))))
        self.assertEqual(body_of("a, b", "fn x => fn y => fn z => b + y"),
                         ("fn", (1,), 2, ("fn", (0,), 2, ("fn", (0, 1), 3, plus(slot(0), slot(1))))))
        self.assertEqual(body_of("a", "fn x => let y = a in fn z => y + a"),
                         ("fn", (0,), 3, ("let", 2, slot(0), ("fn", (0, 2), 3, plus(slot(1), slot(0))))))

    def test_fns_within_fns_with_names_bound_anew(self):
        self.assertEqual(body_of("x, y", "fn x => fn y => x + y"), ("fn", (), 1, ("fn", (0,), 2,
                                                                                 plus(slot(0), slot(1)))))
        self.assertEqual(body_of("x", "fn y => (fn x => x) ! x"),
                         ("fn", (0,), 2, ("do", ("fn", (), 1, slot(0)), slot(0))))
        self.assertEqual(body_of("x", "fn y => (let x = y in fn z => x) ! x"),
                         ("fn", (0,), 3, ("do", ("let", 2, slot(1), ("fn", (2,), 2, slot(0))), slot(0))))

    def test_the_a_of_a_let_is_outside_for_an_fn(self):
        self.assertEqual(body_of("a", "let b = fn x => a in fn x => b ! a"),
                         ("let", 1, ("fn", (0,), 2, slot(0)),
                          ("fn", (0, 1), 3, ("do", slot(1), slot(0)))))


class PlacedTest(ScopeTest):
    """Point 9."""

    def test_counts_and_sizes(self):
        program = placed(read("def f() = 1 def g(a) = 1 def h(a, b, c, d) = 1 def main() = let x = 1 in 1 "
                              "def i(a) = let x = a in let y = x in 1 def j() = fn x => let y = x in y"))
        self.assertEqual([(count, size) for count, size, body in program[0]],
                         [(0, 0), (1, 1), (4, 4), (0, 1), (1, 3), (0, 0)])
        self.assertEqual(program[1], 3)

    def test_each_form(self):
        for text, term in (("7", ("number", 7)), ("yes", ("truth", True)), ("no", ("truth", False)), ("[]", ("none",)),
                           ("b", slot(1)), ("head b", ("one", "head", slot(1))), ("tail a", ("one", "tail", slot(0))),
                           ("empty a", ("one", "empty", slot(0))), ("not a", ("one", "not", slot(0))),
                           ("if a then b else 1", ("if", slot(0), slot(1), ONE)),
                           ("let x = b in a", ("let", 2, slot(1), slot(0))), ("fn x => b", ("fn", (1,), 2, slot(0))),
                           ("a ! b", ("do", slot(0), slot(1))), ("f()", ("call", 1, ())),
                           ("g(b, a)", ("call", 2, (slot(1), slot(0))))):
            told = placed(read(f"def main(a, b) = {text} def f() = 1 def g(a, b) = 1"))
            self.assertEqual(repr(told[0][0][2]), repr(term))
        for sign in "<=:+-*/":
            self.assertEqual(body_of("a, b", f"b {sign} a"), ("two", sign, slot(1), slot(0)))

    def test_kinds_of_python(self):
        told = placed(read("def main(a) = f(fn x => a) def f(a) = a"))
        self.assertIs(type(told), tuple)
        self.assertIs(type(told[0]), list)
        self.assertIs(type(told[1]), int)
        count, size, body = told[0][0]
        self.assertIs(type(told[0][0]), tuple)
        self.assertIs(type(count), int)
        self.assertIs(type(size), int)
        self.assertIs(type(body[2]), tuple)
        self.assertIs(type(body[2][0][1]), tuple)

    def test_what_was_told_is_changed_and_asked_again(self):
        program = read("def main(a) = let b = a in fn x => f(b) def f(x) = x")
        kept = repr(program)
        first = placed(program)
        text = repr(first)
        second = placed(program)
        first[0].append("more")
        first[0][0] = None
        self.assertEqual(repr(second), text)
        self.assertEqual(repr(placed(program)), text)
        self.assertEqual(repr(program), kept)

    def test_parts(self):
        fn = ("fn", (2, 3), 4, slot(2))
        for term, parts in ((ONE, []), (("truth", True), []), (("none",), []), (slot(3), []),
                            (("two", ":", ONE, fn), [ONE, fn]), (("one", "head", fn), [fn]),
                            (("if", ONE, fn, slot(0)), [ONE, fn, slot(0)]), (("let", 0, fn, slot(0)), [fn, slot(0)]),
                            (("let", 5, slot(0), fn), [slot(0), fn]), (fn, [slot(2)]), (("fn", (), 1, fn), [fn]),
                            (("do", fn, ONE), [fn, ONE]), (("call", 0, ()), []), (("call", 3, (fn,)), [fn]),
                            (("call", 1, (ONE, fn, slot(0), ONE, fn)), [ONE, fn, slot(0), ONE, fn])):
            kept = repr(term)
            told = placed_parts(term)
            self.assertEqual(told, parts)
            self.assertIs(type(told), list)
            told.append("more")
            self.assertEqual(placed_parts(term), parts)
            self.assertEqual(repr(term), kept)


class AnyProgramTest(ScopeTest):
    """Holds placed to what bindings with numbers of their own tell."""

    def test_programs_whose_names_are_bound(self):
        chance = seeded(81)
        fns_that_take = 0
        for many in range(600):
            program = any_bound_program(chance, 2 + many % 6)
            wanted = placed_by_bindings(program)
            self.assertIsNotNone(wanted)
            told = placed(program)
            self.assertEqual(repr(told), repr(wanted))
            fns_that_take += repr(told).count("'fn', (0")
        self.assertGreater(fns_that_take, 300)

    def test_any_programs(self):
        chance = seeded(82)
        refused = 0
        for many in range(600):
            program = any_bound_program(chance, 3)
            k = chance.randrange(len(program))
            body = any_term(chance, 2) if many % 3 == 0 else any_bound_term(chance, 3, ("x", "y"), {"f": 1, "g": 2})
            changed = (("def", chance.choice(("main", "f", "g")), ("y", "x")[:many % 3], body),)
            if many % 4 == 0:
                changed = (program[k][:2] + (program[k][2][:1] + program[k][2],) + program[k][3:],)
            program = program[:k] + changed + program[k + 1:]
            wanted = placed_by_bindings(program)
            if wanted is None:
                refused += 1
                refuses(self, placed, program, refusal=BadName)
            else:
                self.assertEqual(repr(placed(program)), repr(wanted))
        self.assertGreater(refused, 200)
        self.assertLess(refused, 580)

    def test_free_names_of_bound_terms(self):
        chance = seeded(83)
        for many in range(300):
            term = any_bound_term(chance, 5, ("x", "y", "z"), {"f": 1})
            binder = Binder()
            meant = {name: binder.binding() for name in ("x", "y", "z")}
            outside = from_outside(binder.resolved(term, meant))
            self.assertEqual(free_names(term), sorted(name for name in meant if meant[name] in outside))


class GreatTest(ScopeTest):
    """Nothing is refused for its size."""

    def test_more_functions_parameters_and_terms(self):
        names = tuple(f"n{k}" for k in range(30))
        terms = tuple(("name", name) for name in reversed(names))
        program = tuple(("def", f"f{k}", names, ("call", f"f{k}", terms)) for k in range(40))
        program += (("def", "main", (), ("fn", "averylongname", ("name", "averylongname"))),)
        functions, main = placed(program)
        self.assertEqual(main, 40)
        for k in range(40):
            self.assertEqual(functions[k], (30, 30, ("call", k, tuple(slot(29 - at) for at in range(30)))))
        refuses(self, placed, program + (("def", "f", (), ("call", "f3", terms[1:])),), refusal=BadName)

    def test_deep_lets_and_fns(self):
        term = X
        for many in range(4000):
            term = (("let", "x", X, term), ("one", "head", term), plus(ONE, term))[many % 3]
        functions, main = placed((("def", "main", ("x",), term),))
        count, size, body = functions[0]
        lets = 0
        while body[0] != "slot":
            if body[0] == "let":
                self.assertEqual(body[1], lets + 1)
                self.assertEqual(body[2], slot(lets))
                lets += 1
            body = placed_parts(body)[-1]
        self.assertEqual((count, size), (1, lets + 1))
        self.assertEqual(body, slot(lets))
        self.assertGreater(lets, 1300)

    def test_deep_fns(self):
        term = plus(("name", "p0"), ("name", "p299"))
        for many in reversed(range(300)):
            term = ("fn", f"p{many}", term)
        body = placed((("def", "main", (), term),))[0][0][2]
        taken = []
        while body[0] == "fn":
            taken.append((body[1], body[2]))
            body = body[3]
        self.assertEqual(taken, [((), 1)] + [((0,), 2)] * 299)
        self.assertEqual(body, plus(slot(0), slot(1)))

    def test_deep_fns_that_take_all(self):
        term = ("call", "f", tuple(("name", f"p{many}") for many in range(120)))
        for many in reversed(range(120)):
            term = ("fn", f"p{many}", term)
        program = (("def", "f", tuple(f"a{many}" for many in range(120)), ONE), ("def", "main", (), term))
        body = placed(program)[0][1][2]
        for many in range(120):
            self.assertEqual(body[1:3], (tuple(range(many)), many + 1))
            body = body[3]
        self.assertEqual(body, ("call", 0, tuple(slot(k) for k in range(120))))


if __name__ == "__main__":
    unittest.main()
