"""Point 5: programs that are too deep or too great, and too many brackets at once."""

import unittest

from helpers import ONE_WORDS, SIGNS, refuses
from speakmill.reading import read
from speakmill.showing import shown, shown_term
from speakmill.trees import depth_of, size_of

ONE = ("number", 1)
X = ("name", "x")
LEAVES = (ONE, ("truth", True), ("none",), X, ("call", "f", ()))

# Each way to put a term one deeper.
WRAPS = (
    [lambda term, sign=sign: ("two", sign, term, ONE) for sign in SIGNS]
    + [lambda term, sign=sign: ("two", sign, ONE, term) for sign in SIGNS]
    + [lambda term, word=word: ("one", word, term) for word in ONE_WORDS]
    + [
        lambda term: ("if", term, ONE, X),
        lambda term: ("if", ONE, term, X),
        lambda term: ("if", ONE, X, term),
        lambda term: ("let", "x", term, ONE),
        lambda term: ("let", "x", ONE, term),
        lambda term: ("fn", "x", term),
        lambda term: ("do", term, ONE),
        lambda term: ("do", ONE, term),
        lambda term: ("call", "f", (term,)),
        lambda term: ("call", "f", (ONE, X, ONE, term)),
    ]
)


def wrapped(leaf, wraps, depth):
    term = leaf
    for at in range(depth - 1):
        term = wraps[at % len(wraps)](term)
    return term


def of_size(size):
    """A term of this size that is not deep, in two forms alone."""
    if size == 1:
        return ONE
    if size == 2:
        return ("one", "head", ONE)
    left = (size - 1) // 2
    return ("two", "+", of_size(left), of_size(size - 1 - left))


class LimitTest(unittest.TestCase):
    def refused(self, text):
        refuses(self, read, text)

    def refused_body(self, text):
        self.refused("def main() = " + text)

    def read_body(self, text):
        return read("def main() = " + text)[0][3]


class DepthTest(LimitTest):
    def check(self, leaf, wraps):
        for depth in (1, 2, 15, 16):
            term = wrapped(leaf, wraps, depth)
            self.assertEqual(depth_of(term), depth)
            self.assertEqual(self.read_body(shown_term(term)), term)
        for depth in (17, 18, 25):
            self.refused_body(shown_term(wrapped(leaf, wraps, depth)))

    def test_each_form(self):
        for wrap in WRAPS:
            for leaf in LEAVES:
                self.check(leaf, [wrap])

    def test_forms_within_one_another(self):
        for at, wrap in enumerate(WRAPS):
            self.check(X, [wrap, WRAPS[(at * 5 + 3) % len(WRAPS)], WRAPS[(at * 7 + 1) % len(WRAPS)]])

    def test_without_brackets(self):
        for begin, again, end in (("", "1 + ", "1"), ("", "1 - ", "1"), ("", "x * ", "x"), ("", "x / ", "x"),
                                  ("", "1 : ", "[]"), ("", "f ! ", "x"), ("", "head ", "x"), ("", "tail ", "x"),
                                  ("", "empty ", "x"), ("", "not ", "x"), ("", "if x then y else ", "1"),
                                  ("", "let x = 1 in ", "1"), ("", "fn x => ", "1"), ("", "1 + fn x => ", "1")):
            steps = 2 if "+ fn" in again else 1
            self.assertEqual(depth_of(self.read_body(begin + again * (15 // steps) + end)), 15 // steps * steps + 1)
            for many in (16, 17, 30):
                self.refused_body(begin + again * many + end)

    def test_brackets_are_no_depth(self):
        self.assertEqual(self.read_body("((head ((x))))"), ("one", "head", X))
        term = wrapped(X, [lambda term: ("one", "head", term)], 16)
        self.assertEqual(self.read_body("head " * 15 + "(" * 16 + "x" + ")" * 16), term)
        self.assertEqual(self.read_body("(" * 16 + "head " * 15 + "x" + ")" * 16), term)
        self.assertEqual(self.read_body("(head " * 15 + "(x)" + ")" * 15), term)
        self.refused_body("(" * 16 + "head " * 16 + "x" + ")" * 16)

    def test_any_body_counts(self):
        deep = "head " * 16 + "x"
        self.refused("def f() = 1 def g() = 2 def h() = " + deep)
        self.refused("def f() = " + deep + " def g() = 2")
        self.assertEqual(len(read(" ".join(f"def f{k}() = {deep[5:]}" for k in range(12)))), 12)

    def test_as_deep_as_a_text_can_be(self):
        for again, end in (("1+", "1"), ("1:", "1"), ("1*", "1"), ("x!", "x"), ("head ", "x"), ("if ", "x"),
                           ("if x then ", "x"), ("if x then x else ", "x"), ("fn x=>", "x"), ("let x=", "x"),
                           ("let x=1 in ", "x"), ("(", "x"), ("f(", "x"), ("1+(", "x"), ("1<fn x=>", "x"),
                           ("x!fn x=>", "x"), ("[", "x"), ("not fn x=>", "x"), ("def ", "f"), ("1:1+", "x")):
            begin = "def main() = "
            self.refused(begin + again * ((3999 - len(begin)) // len(again)) + end)


class SizeTest(LimitTest):
    def test_in_one_body(self):
        for size in (1, 2, 3, 399, 400):
            term = of_size(size)
            self.assertEqual(size_of(term), size)
            self.assertEqual(self.read_body(shown_term(term)), term)
        for size in (401, 402, 500):
            self.refused_body(shown_term(of_size(size)))

    def test_in_several_bodies(self):
        for sizes in ((200, 200), (399, 1), (1, 399), (100, 100, 100, 100), (34,) * 8 + (32,) * 4):
            self.assertEqual(sum(sizes), 400)
            program = tuple(("def", f"f{k}", ("x",), of_size(size)) for k, size in enumerate(sizes))
            self.assertEqual(read(shown(program)), program)
            for at in range(len(sizes)):
                more = list(program)
                more[at] = ("def", "more", (), of_size(sizes[at] + 1))
                self.refused(shown(more))

    def test_each_form_counts(self):
        for wrap in WRAPS:
            own = size_of(wrap(X)) - 1
            for size, is_let_by in ((400 - own, True), (401 - own, False)):
                text = shown_term(wrap(of_size(size)))
                if is_let_by:
                    self.assertEqual(size_of(self.read_body(text)), 400)
                else:
                    self.refused_body(text)


class BracketTest(LimitTest):
    def test_round_terms(self):
        for many in (1, 15, 16):
            self.assertEqual(self.read_body("(" * many + "x" + ")" * many), X)
        for many in (17, 18, 100, 1000):
            self.refused_body("(" * many + "x" + ")" * many)

    def test_of_calls(self):
        for many in (1, 15):
            self.assertEqual(depth_of(self.read_body("f(" * many + "x" + ")" * many)), many + 1)
        self.assertEqual(depth_of(self.read_body("f(" * 15 + "f()" + ")" * 15)), 16)
        for many in (16, 17, 100, 1000):
            self.refused_body("f(" * many + "x" + ")" * many)
        self.refused_body("f(" * 16 + ")" * 16 + ")")

    def test_of_both_together(self):
        for rounds in range(1, 17):
            calls = 16 - rounds
            within = ("(" * rounds + "f(" * calls + "x" + ")" * 16, "f(" * calls + "(" * rounds + "x" + ")" * 16)
            for text in within:
                self.assertEqual(depth_of(self.read_body(text)), calls + 1)
            for text in within:
                self.refused_body("(" + text + ")")
                self.refused_body(text.replace("x", "(x)"))
                if calls < 15:
                    self.refused_body(text.replace("x", "f()"))

    def test_where_the_deepest_one_is_not_the_first_or_last(self):
        deep = "(" * 16 + "x" + ")" * 16
        self.assertEqual(self.read_body(f"1 + {deep} * (1)"), ("two", "+", ONE, ("two", "*", X, ONE)))
        self.refused_body(f"1 + ({deep}) * (1)")
        self.refused_body(f"f(1, {deep}, 1)")
        self.refused(f"def f() = ({deep}) def g(x) = 1")

    def test_one_behind_the_other(self):
        row = " : ".join(["(x)"] * 16)
        self.assertEqual(depth_of(self.read_body(row)), 16)
        calls = "f(" + ", ".join(["f((1), (2), (3), f((4)))"] * 4) + ")"
        self.assertEqual(size_of(self.read_body(calls)), 1 + 4 * 6)
        program = read(" ".join(f"def f{k}(x) = ((x)) + f(((x))) + (x)" for k in range(12)))
        self.assertEqual(len(program), 12)
        self.assertEqual(program[3][3], ("two", "+", ("two", "+", X, ("call", "f", (X,))), X))
        each = "(" * 16 + "x" + ")" * 16
        self.assertEqual(self.read_body(" + ".join([each] * 10)), self.read_body(" + ".join(["x"] * 10)))


if __name__ == "__main__":
    unittest.main()
