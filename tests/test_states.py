"""Point 16: states, and how one leads on."""

import unittest

from evaluating import evaluated
from filling import any_kinded_program
from helpers import DeepCallsTest, seeded
from speakmill.reading import read
from speakmill.reckoning import begun, onward, reckoned

ONE, TWO, X, Y, NONE = ("number", 1), ("number", 2), ("name", "x"), ("name", "y"), ("none",)
BOUND = (("x", 5), ("y", True), ("x", ("list", ())))
PILE = (("one", "not"), ("back",))
PROGRAM = (("def", "none", (), ("two", "+", ONE, TWO)), ("def", "one", ("a",), X),
           ("def", "three", ("c", "b", "a"), ("name", "b")), ("def", "main", ("x", "y"), ("two", "<", X, Y)))
NUMBERS = ("list", (3, 4))
FN = ("fn", "x", ("two", "+", X, Y), BOUND)


def value(v):
    return ("value", v)


def term(t, bound=BOUND):
    return ("term", t, bound)


class StateTest(unittest.TestCase):
    def leads(self, focus, pile, told, calls=3, deep=7, most=10):
        """told: the answer, or the next state; its calls and deep may be left out where they stay."""
        state = (focus, pile, calls, deep)
        kept = repr(state), repr(PROGRAM)
        for many in range(2):
            found = onward(PROGRAM, state, most)
            wanted = told + (calls, deep) if isinstance(told[0], tuple) and len(told) == 2 else told
            self.assertEqual(repr(found), repr(wanted))
            self.assertIs(type(found), tuple)
        self.assertEqual((repr(state), repr(PROGRAM)), kept)

    def top(self, v, top, told, **more):
        """What comes of a value v where this is on top; told: the answer, or the focus and what stands for the top."""
        if isinstance(told[0], tuple):
            told = (told[0], PILE + told[1]) + told[2:]
        self.leads(value(v), PILE + (top,), told, **more)


class BegunTest(StateTest):
    def test_first_states(self):
        self.assertEqual(begun(PROGRAM, [3, -4]), (("term", ("two", "<", X, Y), (("x", 3), ("y", -4))), (), 0, 1))
        self.assertEqual(begun(read("def main() = 7"), []), (("term", ("number", 7), ()), (), 0, 1))
        for at in range(3):
            program = [("def", "f", ("a",), ONE), ("def", "g", (), NONE)]
            program.insert(at, ("def", "main", ("d", "c", "b", "a"), X))
            self.assertEqual(begun(tuple(program), [1, 2, 3, 4]),
                             (("term", X, (("d", 1), ("c", 2), ("b", 3), ("a", 4))), (), 0, 1))

    def test_what_is_handed_in_stays_and_is_not_kept(self):
        numbers = [3, 4]
        first = begun(PROGRAM, numbers)
        numbers[0] = 9
        self.assertEqual(first[0][2], (("x", 3), ("y", 4)))
        self.assertEqual(begun(PROGRAM, [3, 4]), first)
        self.assertEqual(numbers, [9, 4])

    def test_kinds_of_python(self):
        state = begun(PROGRAM, [3, 4])
        self.assertEqual([type(part) for part in state], [tuple, tuple, int, int])
        self.assertEqual([type(part) for part in state[0]], [str, tuple, tuple])
        self.assertEqual([type(pair) for pair in state[0][2]], [tuple, tuple])


class TermTest(StateTest):
    """What follows each form of term."""

    def becomes(self, t, v, bound=BOUND):
        for pile in ((), PILE):
            self.leads(term(t, bound), pile, (value(v), pile))

    def waits(self, t, first, top):
        for pile in ((), PILE):
            self.leads(term(t), pile, (term(first), pile + (top,)))

    def test_leaves(self):
        self.becomes(("number", 0), 0)
        self.becomes(("number", 999999999999), 999999999999)
        self.becomes(("truth", True), True)
        self.becomes(("truth", False), False)
        self.becomes(NONE, ("list", ()))

    def test_names(self):
        self.becomes(Y, True)
        self.becomes(X, 5, (("x", 5),))
        self.becomes(X, ("list", (1, 2)), (("y", 5), ("x", ("list", (1, 2))), ("z", 6)))

    def test_the_last_pair_of_a_name_counts(self):
        self.becomes(X, ("list", ()))
        self.becomes(X, 3, (("x", 1), ("x", 2), ("y", 7), ("x", 3), ("y", 8)))
        self.becomes(Y, 8, (("x", 1), ("x", 2), ("y", 7), ("x", 3), ("y", 8)))

    def test_fns(self):
        self.becomes(("fn", "z", ("two", "+", X, Y)), ("fn", "z", ("two", "+", X, Y), BOUND))
        self.becomes(("fn", "x", ONE), ("fn", "x", ONE, ()), ())
        self.becomes(("fn", "x", X), ("fn", "x", X, (("x", 1), ("y", 2))), (("x", 1), ("y", 2)))

    def test_two(self):
        for sign in "<=:+-*/":
            self.waits(("two", sign, Y, ONE), Y, ("two", sign, ONE, BOUND))

    def test_one(self):
        for word in ("head", "tail", "empty", "not"):
            self.waits(("one", word, X), X, ("one", word))

    def test_if_let_and_do(self):
        self.waits(("if", Y, ONE, TWO), Y, ("if", ONE, TWO, BOUND))
        self.waits(("let", "x", ONE, Y), ONE, ("let", "x", Y, BOUND))
        self.waits(("do", X, Y), X, ("do", Y, BOUND))

    def test_calls(self):
        self.waits(("call", "one", (X,)), X, ("call", "one", (), (), BOUND))
        self.waits(("call", "main", (X, ONE)), X, ("call", "main", (), (ONE,), BOUND))
        self.waits(("call", "three", (TWO, X, ONE)), TWO, ("call", "three", (), (X, ONE), BOUND))
        many = tuple(("number", k) for k in range(9))
        self.waits(("call", "many", many), many[0], ("call", "many", (), many[1:], BOUND))

    def test_a_call_without_terms(self):
        body = ("term", ("two", "+", ONE, TWO), ())
        for pile in ((), PILE):
            self.leads(term(("call", "none", ())), pile, (body, pile + (("back",),), 4, 8))
            self.leads(term(("call", "none", ())), pile, (body, pile + (("back",),), 10, 8), calls=9)
            self.leads(term(("call", "none", ())), pile, ("dry",), calls=10)
            self.leads(term(("call", "none", ())), pile, ("dry",), calls=0, most=0)
            self.leads(term(("call", "none", ())), pile, (body, pile + (("back",),), 4, 60), deep=59)
            self.leads(term(("call", "none", ())), pile, ("deep",), deep=60)
            self.leads(term(("call", "none", ())), pile, ("dry",), calls=10, deep=60)


class ValueTest(StateTest):
    """What follows a value, by what is on top of the pile."""

    def test_two(self):
        for sign in "<=:+-*/":
            for v in (0, 5, -7, True, NUMBERS, FN):
                self.top(v, ("two", sign, X, BOUND), (term(X), (("then", sign, v),)))

    def test_then(self):
        for sign, left, right, told in (("+", 7, 2, 9), ("-", 7, 2, 5), ("*", 7, 2, 14), ("/", -7, 2, -4),
                                        ("<", 2, 7, True), ("<", 7, 2, False), ("=", 7, 7, True), ("=", 7, 2, False)):
            self.top(right, ("then", sign, left), (value(told), ()))
        self.top(NUMBERS, ("then", ":", 2), (value(("list", (2, 3, 4))), ()))
        self.top(("list", ()), ("then", ":", 2), (value(("list", (2,))), ()))
        self.top(("list", ()), ("then", ":", NUMBERS), (value(("list", (NUMBERS,))), ()))
        self.top(("list", (FN,)), ("then", ":", FN), (value(("list", (FN, FN))), ()))
        self.top(("list", (False,)), ("then", ":", True), (value(("list", (True, False))), ()))

    def test_then_refused(self):
        self.top(0, ("then", "/", 7), ("refused", "nought"))
        self.top(1, ("then", "+", 10 ** 40), ("refused", "great"))
        self.top(1, ("then", "-", -10 ** 40), ("refused", "great"))
        self.top(2, ("then", "*", 10 ** 40), ("refused", "great"))
        self.top(1, ("then", "*", 10 ** 40), (value(10 ** 40), ()))

    def test_one(self):
        for word, v, told in (("head", NUMBERS, 3), ("tail", NUMBERS, ("list", (4,))), ("empty", NUMBERS, False),
                              ("empty", ("list", ()), True), ("not", True, False), ("not", False, True),
                              ("tail", ("list", (1,)), ("list", ())), ("head", ("list", (NUMBERS,)), NUMBERS),
                              ("head", ("list", (FN, FN)), FN), ("empty", ("list", (("list", ()),)), False),
                              ("head", ("list", (False,)), False)):
            self.top(v, ("one", word), (value(told), ()))
        for word in ("head", "tail"):
            self.top(("list", ()), ("one", word), ("refused", word))

    def test_if(self):
        self.top(True, ("if", X, ONE, BOUND), (term(X), ()))
        self.top(False, ("if", X, ONE, BOUND), (term(ONE), ()))

    def test_let(self):
        for v in (7, False, NUMBERS, FN):
            self.top(v, ("let", "z", Y, BOUND), (term(Y, BOUND + (("z", v),)), ()))
            # A name that is bound anew has a pair more.
            self.top(v, ("let", "x", X, BOUND), (term(X, BOUND + (("x", v),)), ()))
            self.top(v, ("let", "x", X, ()), (term(X, (("x", v),)), ()))

    def test_do(self):
        self.top(FN, ("do", X, BOUND), (term(X), (("with", FN),)))

    def test_with(self):
        for v in (7, False, NUMBERS, FN):
            self.top(v, ("with", FN), (term(FN[2], BOUND + (("x", v),)), (("back",),), 4, 8))
            self.top(v, ("with", ("fn", "z", ONE, ())), (term(ONE, (("z", v),)), (("back",),), 4, 8))
        self.counted(7, ("with", FN), term(FN[2], BOUND + (("x", 7),)))

    def test_a_call_with_terms_left(self):
        self.top(7, ("call", "main", (), (X,), BOUND), (term(X), (("call", "main", (7,), (), BOUND),)))
        self.top(7, ("call", "three", (), (X, ONE), BOUND), (term(X), (("call", "three", (7,), (ONE,), BOUND),)))
        self.top(FN, ("call", "three", (7,), (ONE,), BOUND), (term(ONE), (("call", "three", (7, FN), (), BOUND),)))
        # Nothing counts yet.
        self.top(7, ("call", "main", (), (X,), BOUND), (term(X), (("call", "main", (7,), (), BOUND),)), most=0, deep=60)

    def test_a_call_with_none_left(self):
        self.top(7, ("call", "one", (), (), BOUND), (term(X, (("a", 7),)), (("back",),), 4, 8))
        self.top(7, ("call", "main", (FN,), (), BOUND),
                 (term(("two", "<", X, Y), (("x", FN), ("y", 7))), (("back",),), 4, 8))
        self.top(9, ("call", "three", (7, 8), (), BOUND),
                 (term(("name", "b"), (("c", 7), ("b", 8), ("a", 9))), (("back",),), 4, 8))
        self.counted(7, ("call", "one", (), (), BOUND), term(X, (("a", 7),)))

    def counted(self, v, top, focus):
        self.top(v, top, (focus, (("back",),), 10, 8), calls=9)
        self.top(v, top, ("dry",), calls=10)
        self.top(v, top, ("dry",), calls=0, most=0)
        self.top(v, top, (focus, (("back",),), 1, 2), calls=0, deep=1, most=1)
        self.top(v, top, (focus, (("back",),), 4, 60), deep=59)
        self.top(v, top, ("deep",), deep=60)
        self.top(v, top, ("deep",), calls=9, deep=60)
        self.top(v, top, ("dry",), calls=10, deep=60)
        self.top(v, top, ("dry",), calls=12)
        self.top(v, top, ("deep",), deep=62)

    def test_back(self):
        for v in (7, False, NUMBERS, FN):
            self.top(v, ("back",), (value(v), (), 3, 6))
            self.leads(value(v), (("back",),), (value(v), (), 10, 59), calls=10, deep=60)

    def test_nothing_on_the_pile(self):
        for v, told in ((7, 7), (0, 0), (True, True), (False, False), (("list", ()), []), (NUMBERS, [3, 4]),
                        (("list", (NUMBERS, ("list", ()), NUMBERS)), [[3, 4], [], [3, 4]]),
                        (("list", (True, False)), [True, False])):
            self.leads(value(v), (), ("value", told))
            self.leads(value(v), (), ("value", told), calls=10, deep=1, most=0)

    def test_lists_of_an_answer_are_the_askers_own(self):
        state = (value(("list", (NUMBERS, NUMBERS))), (), 0, 1)
        first, second = onward(PROGRAM, state, 5), onward(PROGRAM, state, 5)
        first[1][0].append("more")
        first[1].append("more")
        self.assertEqual(second, ("value", [[3, 4], [3, 4]]))
        self.assertEqual(first, ("value", [[3, 4, "more"], [3, 4], "more"]))


class WayTest(StateTest):
    """States one behind the other."""

    def states(self, text, numbers, most):
        program = read(text)
        state = begun(program, numbers)
        found = []
        while len(state) == 4:
            found.append(state)
            state = onward(program, state, most)
        return found, state

    def test_a_small_program(self):
        x, one = ("name", "x"), ("number", 1)
        plus = ("two", "+", x, one)
        call = ("call", "f", (x,))
        ways, answer = self.states("def f(y) = y def main(x) = f(x) * f(x)", [4], 10)
        bound, inner, y = (("x", 4),), (("y", 4),), ("name", "y")
        star = ("two", "*", call, bound)
        waits = ("call", "f", (), (), bound)
        then = ("then", "*", 4)
        self.assertEqual(ways, [
            (("term", ("two", "*", call, call), bound), (), 0, 1),
            (("term", call, bound), (star,), 0, 1),
            (("term", x, bound), (star, waits), 0, 1),
            (("value", 4), (star, waits), 0, 1),
            (("term", y, inner), (star, ("back",)), 1, 2),
            (("value", 4), (star, ("back",)), 1, 2),
            (("value", 4), (star,), 1, 1),
            (("term", call, bound), (then,), 1, 1),
            (("term", x, bound), (then, waits), 1, 1),
            (("value", 4), (then, waits), 1, 1),
            (("term", y, inner), (then, ("back",)), 2, 2),
            (("value", 4), (then, ("back",)), 2, 2),
            (("value", 4), (then,), 2, 1),
            (("value", 16), (), 2, 1),
        ])
        self.assertEqual(answer, ("value", 16))
        self.assertEqual(self.states("def main(x) = x + 1", [4], 0)[0][0], (("term", plus, bound), (), 0, 1))

    def test_an_fn(self):
        x, y, k = ("name", "x"), ("name", "y"), ("name", "k")
        body = ("two", "+", y, k)
        fn = ("fn", "y", body)
        ways, answer = self.states("def main(k) = let x = fn y => y + k in x ! k", [4], 10)
        bound = (("k", 4),)
        closed = ("fn", "y", body, bound)
        more = bound + (("x", closed),)
        inner = bound + (("y", 4),)
        self.assertEqual(ways, [
            (("term", ("let", "x", fn, ("do", x, k)), bound), (), 0, 1),
            (("term", fn, bound), (("let", "x", ("do", x, k), bound),), 0, 1),
            (("value", closed), (("let", "x", ("do", x, k), bound),), 0, 1),
            (("term", ("do", x, k), more), (), 0, 1),
            (("term", x, more), (("do", k, more),), 0, 1),
            (("value", closed), (("do", k, more),), 0, 1),
            (("term", k, more), (("with", closed),), 0, 1),
            (("value", 4), (("with", closed),), 0, 1),
            (("term", body, inner), (("back",),), 1, 2),
            (("term", y, inner), (("back",), ("two", "+", k, inner)), 1, 2),
            (("value", 4), (("back",), ("two", "+", k, inner)), 1, 2),
            (("term", k, inner), (("back",), ("then", "+", 4)), 1, 2),
            (("value", 4), (("back",), ("then", "+", 4)), 1, 2),
            (("value", 8), (("back",),), 1, 2),
            (("value", 8), (), 1, 1),
        ])
        self.assertEqual(answer, ("value", 8))


class AnyProgramTest(DeepCallsTest):
    """Each state on the way fits its pile, and the last one the answer."""

    def test_any_programs(self):
        chance = seeded(16)
        for many in range(150):
            program = any_kinded_program(chance, 3)
            numbers = [chance.randint(-3, 3) for name in [one for one in program if one[1] == "main"][0][2]]
            state = begun(program, numbers)
            while len(state) == 4:
                self.assertEqual(state[3], 1 + state[1].count(("back",)))
                self.assertLessEqual(state[3], min(60, 1 + state[2]))
                last, state = state, onward(program, state, 30)
            answer, calls = evaluated(program, numbers, 30)
            self.assertEqual(repr(state), repr(answer))
            self.assertEqual(repr(reckoned(program, numbers, 30)), repr(answer))
            if answer[0] != "deep":
                self.assertEqual(last[2], calls)


if __name__ == "__main__":
    unittest.main()
