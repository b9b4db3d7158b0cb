"""Point 3: programs and terms."""

import itertools
import unittest

from grammar import all_readings
from helpers import NAMES, ONE_WORDS, SIGNS, TOLD_WORDS, any_term, refuses, seeded
from speakmill.errors import BadText
from speakmill.reading import read
from speakmill.showing import shown_term

A, B, C, D = ("name", "a"), ("name", "b"), ("name", "c"), ("name", "d")
X = ("name", "x")


def number(n):
    return ("number", n)


def read_term(text):
    return read("def main() = " + text)[0][3]


class ReadingTest(unittest.TestCase):
    def refused(self, text):
        refuses(self, read, text)

    def refused_term(self, text):
        self.refused("def main() = " + text)

    def same(self, text, other):
        self.assertEqual(read_term(text), read_term(other), msg=text)

    def is_term(self, text, term):
        # By repr, as True is 1 for Python.
        self.assertEqual(repr(read_term(text)), repr(term), msg=text)


class FormTest(ReadingTest):
    def test_each_form(self):
        self.is_term("0", number(0))
        self.is_term("1", number(1))
        self.is_term("999999999999", number(999999999999))
        self.is_term("yes", ("truth", True))
        self.is_term("no", ("truth", False))
        self.is_term("[ ]", ("none",))
        self.is_term("[]", ("none",))
        self.is_term("[\n\t]", ("none",))
        self.is_term("a", A)
        self.is_term("(a)", A)
        self.is_term("( ( a ) )", A)
        for sign in SIGNS:
            self.is_term("a" + sign + "b", ("two", sign, A, B))
        for word in ONE_WORDS:
            self.is_term(word + " a", ("one", word, A))
            self.is_term(word + "(a)", ("one", word, A))
        self.is_term("if a then b else c", ("if", A, B, C))
        self.is_term("let x = a in b", ("let", "x", A, B))
        self.is_term("fn x => a", ("fn", "x", A))
        self.is_term("a ! b", ("do", A, B))

    def test_calls_of_none_to_four_terms(self):
        for many in range(5):
            self.is_term("f(" + ",".join("abcd"[:many]) + ")", ("call", "f", (A, B, C, D)[:many]))
        self.is_term("f ( a )", ("call", "f", (A,)))
        self.is_term("f(g(a), (b))", ("call", "f", (("call", "g", (A,)), B)))
        for text in ("f(a,b,c,d,a)", "f(1,1,1,1,1,1)", "f(a,)", "f(,a)", "f(,)", "f(a,,b)", "f(a b)", "f(a,b c)",
                     "f(a,b,c,d,)", "f((a,b))", "f(", "f(a", "f(a,", "f)", "f(a))", "f[a]"):
            self.refused_term(text)

    def test_what_is_no_call(self):
        for text in ("1(a)", "yes(a)", "no()", "(f)(a)", "f(a)(b)", "[](a)", "f a", "a 1", "1 a", "a (b) c", "1 2"):
            self.refused_term(text)

    def test_a_call_behind_a_word(self):
        self.same("head f(x)", "head (f(x))")
        self.same("f ! g(x)", "f ! (g(x))")
        self.same("f(x) ! g", "(f(x)) ! g")
        self.same("head (f) ! x", "head (f ! x)")

    def test_no_told_word_is_a_name(self):
        for word in TOLD_WORDS:
            self.refused(f"def {word}() = 1")
            self.refused(f"def f({word}) = 1")
            self.refused(f"def f(x, {word}) = 1")
            self.refused_term(f"let {word} = 1 in 2")
            self.refused_term(f"fn {word} => 1")
            if word not in ONE_WORDS + ("yes", "no"):
                self.refused_term(word)
            if word not in ONE_WORDS:
                self.refused_term(f"{word}(a)")
            self.refused_term(f"{word}()")
        for name in ("define", "ifs", "yess", "head1", "nott", "n", "inn"):
            self.assertEqual(read(f"def {name}({name}) = {name}({name})")[0],
                             ("def", name, (name,), ("call", name, (("name", name),))))

    def test_no_number_or_mark_is_a_name(self):
        for word in ("1", "0", "(", ")", ",", "=", "=>", "+", "[", "[]", "!"):
            self.refused(f"def {word}() = 1")
            self.refused(f"def f({word}) = 1")
            self.refused_term(f"let {word} = 1 in 2")
            self.refused_term(f"fn {word} => 1")
        self.refused("def () = 1")
        self.refused_term("let = 1 in 2")
        self.refused_term("fn => 1")


class StrengthTest(ReadingTest):
    # Signs of one strength to a row, those that bind least first.
    ROWS = (("<", "="), (":",), ("+", "-"), ("*", "/"), ("!",))

    def row_of(self, sign):
        return [sign in row for row in self.ROWS].index(True)

    def test_each_strength_beside_each_other_one(self):
        signs = [sign for row in self.ROWS for sign in row]
        for one, other in itertools.product(signs, signs):
            text = f"a {one} b {other} c"
            if self.row_of(one) == self.row_of(other) == 0:
                self.refused_term(text)
            elif self.row_of(one) < self.row_of(other) or one == other == ":":
                self.same(text, f"a {one} (b {other} c)")
            else:
                self.same(text, f"(a {one} b) {other} c")

    def test_from_the_left_and_from_the_right(self):
        self.is_term("a - b - c - d", ("two", "-", ("two", "-", ("two", "-", A, B), C), D))
        self.is_term("a - b + c - d", ("two", "-", ("two", "+", ("two", "-", A, B), C), D))
        self.is_term("a / b * c / d", ("two", "/", ("two", "*", ("two", "/", A, B), C), D))
        self.is_term("a ! b ! c ! d", ("do", ("do", ("do", A, B), C), D))
        self.is_term("a : b : c : d", ("two", ":", A, ("two", ":", B, ("two", ":", C, D))))
        self.same("(a : b) : c : d", "(a : b) : (c : d)")
        self.same("a - (b - c) - d", "(a - (b - c)) - d")

    def test_all_strengths_in_one_row(self):
        self.same("a < b : c + d * head a ! b", "a < (b : (c + (d * (head (a ! b)))))")
        self.same("head a ! b * c + d : a < b", "((((head (a ! b)) * c) + d) : a) < b")
        self.same("a + b : c - d : a * b = c", "((a + b) : ((c - d) : (a * b))) = c")
        self.same("a * b + c * d - a / b", "((a * b) + (c * d)) - (a / b)")

    def test_two_comparings_side_by_side(self):
        for one, other in itertools.product("<=", "<="):
            self.refused_term(f"a {one} b {other} c")
            self.refused_term(f"fn x => a {one} b {other} c")
            self.refused_term(f"1 + fn x => a {one} b {other} c")
            self.refused_term(f"let x = 1 in a {one} b {other} c")
            self.refused_term(f"let x = a {one} b {other} c in d")
            self.refused_term(f"if a then b else a {one} b {other} c")
            self.refused_term(f"if a {one} b {other} c then b else a")
            self.refused_term(f"a + b {one} c : d {other} a * b")
            self.refused_term(f"(a {one} b {other} c)")
            self.refused_term(f"f(a {one} b {other} c)")
            self.refused_term(f"d {one} fn x => a {one} b {other} c")
            self.is_term(f"(a {one} b) {other} c", ("two", other, ("two", one, A, B), C))
            self.is_term(f"a {one} (b {other} c)", ("two", one, A, ("two", other, B, C)))
            self.is_term(f"(fn x => a {one} b) {other} c", ("two", other, ("fn", "x", ("two", one, A, B)), C))
            self.is_term(f"a {one} fn x => b {other} c", ("two", one, A, ("fn", "x", ("two", other, B, C))))

    def test_one_words(self):
        for word, other in itertools.product(ONE_WORDS, ONE_WORDS):
            self.is_term(f"{word} {other} a", ("one", word, ("one", other, A)))
            self.same(f"{word} a ! b", f"{word} (a ! b)")
            self.same(f"{word} {other} a ! b ! c", f"{word} ({other} ((a ! b) ! c))")
            self.refused_term(f"a ! {word} b")
            self.refused_term(f"a ! b ! {word} b")
            self.refused_term(f"a {word} b")
            self.refused_term(f"{word}")
            self.is_term(f"a ! ({word} b)", ("do", A, ("one", word, B)))
            for sign in SIGNS:
                self.same(f"{word} a {sign} b", f"({word} a) {sign} b")
                self.same(f"a {sign} {word} b", f"a {sign} ({word} b)")
                self.same(f"a {sign} {word} b ! c", f"a {sign} ({word} (b ! c))")


class WideTest(ReadingTest):
    # The beginnings of an if, a let and an fn, whose last part is what follows.
    WIDE = ("if a then b else", "if a then if b then c else d else", "let y = c in", "let y = a = b in", "fn z =>",
            "fn y => let z = a in if b then c else")

    def test_as_far_to_the_right_as_can_be(self):
        for wide in self.WIDE:
            for sign in SIGNS + "!":
                self.same(f"{wide} a {sign} b", f"{wide} (a {sign} b)")
                self.same(f"d {sign} {wide} a", f"d {sign} ({wide} a)")
                self.same(f"(d {sign} {wide} a)", f"d {sign} ({wide} a)")
                self.same(f"f(b, d {sign} {wide} a, c)", f"f(b, d {sign} ({wide} a), c)")
                for other in SIGNS + "!":
                    self.same(f"d {sign} {wide} a {other} b", f"d {sign} ({wide} (a {other} b))")
                    self.same(f"f(d {sign} {wide} a {other} b)", f"f(d {sign} ({wide} (a {other} b)))")
                    self.same(f"(d {sign} {wide} a) {other} b", f"(d {sign} ({wide} a)) {other} b")

    def test_behind_one_words(self):
        for wide in self.WIDE:
            for word in ONE_WORDS:
                self.same(f"{word} {wide} a + b", f"{word} ({wide} (a + b))")
                self.same(f"{wide} {word} a + b", f"{wide} (({word} a) + b)")
                self.same(f"c - {word} {word} {wide} a", f"c - ({word} ({word} ({wide} a)))")
                self.same(f"c ! {wide} {word} a", f"c ! ({wide} ({word} a))")

    def test_within_one_another(self):
        for one, other in itertools.product(self.WIDE, self.WIDE):
            self.same(f"{one} {other} a < b", f"{one} ({other} (a < b))")
            self.same(f"a * {one} b + {other} c : d", f"a * ({one} (b + ({other} (c : d))))")
            self.same(f"if {one} a then {other} b else c", f"if ({one} a) then ({other} b) else c")
            self.same(f"let x = {one} a in {other} b", f"let x = ({one} a) in ({other} b)")
            self.same(f"f({one} a, {other} b)", f"f(({one} a), ({other} b))")

    def test_the_points_own_examples(self):
        self.is_term("1 : 2 : r", ("two", ":", number(1), ("two", ":", number(2), ("name", "r"))))
        self.is_term("1 + if c then 2 else 3 + 4",
                     ("two", "+", number(1), ("if", C, number(2), ("two", "+", number(3), number(4)))))
        self.is_term("let x = a = b in c", ("let", "x", ("two", "=", A, B), C))
        self.is_term("head f ! x", ("one", "head", ("do", ("name", "f"), X)))
        self.refused_term("f ! head x")
        self.refused_term("a < b = c")
        self.refused_term("fn x => a < b = c")

    def test_words_left_out_doubled_or_exchanged(self):
        for text in ("if a then b", "if a else b", "if then a else b", "if a then else b", "if a then b else", "if",
                     "if a b else c", "if a then b c", "if if a then b else c", "if a then then b else c",
                     "if a then b else else c", "if a else b then c", "then a", "else a", "a then b else c",
                     "let x = a", "let x = in b", "let x a in b", "let x = a b", "let x = a in", "let", "in a",
                     "let let x = a in b", "let x = = a in b", "let x = a in in b", "let x in a = b", "let x => a in b",
                     "let x y = a in b", "let f() = a in b", "let (x) = a in b", "fn x => ", "fn x a", "fn x = a",
                     "fn x => => a", "fn fn x => a", "fn x y => a", "fn (x) => a", "fn x, y => a", "fn", "x => a",
                     "a => b", "a +", "+ a", "- 1", "a + + b", "a - - b", "a * / b", "a : : b", "a !", "! a",
                     "a ! ! b", "a < < b", "a : ", ": a", "a < ", "= a", "= = a", "(", ")", "()", "( )", "(a", "a)",
                     "((a)", "(a))", ")a(", "[", "]", "[a]", "[[]]", "[ [ ] ]", "] [", "[)", "(]", "([)]", "(a]",
                     "[] []", "(a) (b)", "a, b", "(a, b)", "a,", ",", "if a, then b else c", "head", "head +", "head )",
                     "head then", "not", "def", "a def", "1 = = 2", "a head", "fn x => a < b < c", ""):
            self.refused_term(text)


class ProgramTest(ReadingTest):
    def test_names_of_functions(self):
        for many in range(5):
            names = ("a", "b", "c", "d")[:many]
            self.assertEqual(read(f"def f({', '.join(names)}) = 1"), (("def", "f", names, number(1)),))
        for names in ("a,b,c,d,e", "a,", ",a", ",", "a,,b", "a b", "(a)", "a,b,c,d,", "1", "a+b", "f()", "[]"):
            self.refused(f"def f({names}) = 1")

    def test_what_placing_will_refuse_is_read(self):
        self.assertEqual(read("def f(x, x) = y def f() = g(1)"),
                         (("def", "f", ("x", "x"), ("name", "y")), ("def", "f", (), ("call", "g", (number(1),)))))

    def test_one_behind_the_other(self):
        for gap in (" ", "\n", "\t", "\n\n \t"):
            for many in (1, 2, 11, 12):
                program = read(gap.join(f"def f{k}(x) = x + {k}" for k in range(many)))
                self.assertEqual(program, tuple(
                    ("def", f"f{k}", ("x",), ("two", "+", X, number(k))) for k in range(many)))
            for many in (13, 14, 40):
                self.refused(gap.join(f"def f{k}(x) = x" for k in range(many)))
        self.assertEqual(read("def f()=(1)def g()=[]def h()=2"), (
            ("def", "f", (), number(1)), ("def", "g", (), ("none",)), ("def", "h", (), number(2))))

    def test_no_program(self):
        for text in ("", " ", "\n", "1", "main", "def", "def f", "def f(", "def f()", "def f() =", "def f() 1",
                     "def f = 1", "f() = 1", "def def f() = 1", "def f f() = 1", "def f()() = 1", "def f(() = 1",
                     "def f()) = 1", "def f() = = 1", "def f() => 1", "def f() = 1 2", "def f() = 1 def",
                     "def f() = 1 def g", "def f() = def g() = 1", "def f() = 1, def g() = 2", "1 def f() = 1",
                     "def f() = (def g() = 1)", "def f() = 1 g() = 2", "def f() = 1 )", "def f() = ( 1", "def f)( = 1",
                     "def f[] = 1", "def (f)() = 1", "def f() = 1 = 2 = 3", "def f() = 1 then", "def f() = %"):
            self.refused(text)

    def test_bad_words_are_refused_in_reading_too(self):
        for text in ("1a", "007", "1234567890123", "abcdefghi", "A", "a > b", "a.b", "a_b", "\"a\"", "a\rb", "\u00e9"):
            self.refused_term(text)
        long = "def f() = 1"
        self.assertEqual(read(long + " " * (4000 - len(long))), read(long))
        self.refused(long + " " * (4001 - len(long)))

    def test_the_form_of_what_is_told(self):
        program = read("def f(x, y) = f(x, y) def g() = g()")
        self.assertIs(type(program), tuple)
        for function in program:
            self.assertIs(type(function), tuple)
            self.assertIs(type(function[2]), tuple)
            self.assertIs(type(function[3][2]), tuple)
        self.assertEqual(repr(read("def f() = 1")), repr(read("def f() = 1")))


class AllReadingsTest(ReadingTest):
    """Holds read to what trying every split of the words tells."""

    def check(self, text):
        wanted = all_readings(text)
        self.assertLessEqual(len(wanted), 1, msg=text)
        try:
            told = [read_term(text)]
        except BadText:
            told = []
        self.assertEqual(told, wanted, msg=text)
        return len(told)

    def test_short_rows(self):
        chunks = ("x", "1", "<", ":", "+", "*", "!", "head", "fn x =>", "if", "then", "else", "let y =", "in", "(", ")",
                  "f (", ",", "[", "]")
        let_by = sum(self.check(" ".join(row)) for many in range(4) for row in itertools.product(chunks, repeat=many))
        self.assertGreater(let_by, 40)

    def test_rows_of_signs(self):
        operands = ("x", "head x", "fn x => x", "if x then y else x", "let x = y in x")
        for row in itertools.product(operands, "<=:+*!", operands, "<:-/!", operands[:4]):
            self.check(" ".join(row))

    def test_longer_rows_of_few_words(self):
        for row in itertools.product(("x", "<", ":", "!", "fn x =>", "(", ")"), repeat=5):
            self.check(" ".join(row))

    def test_a_word_left_out_doubled_or_exchanged(self):
        chance = seeded(3)
        for many in range(60):
            row = loose(chance, any_term(chance, 3)).split(" ")
            for at in range(len(row)):
                self.check(" ".join(row[:at] + row[at + 1:]))
                self.check(" ".join(row[:at] + row[at:at + 1] + row[at:]))
                self.check(" ".join(row[:at] + row[at + 1:at + 2] + row[at:at + 1] + row[at + 2:]))
                self.check(" ".join(row[:at] + [chance.choice(("x", "+", "(", ")", "in", "head", "="))] + row[at + 1:]))


def loose(chance, term):
    """A term's words, blanks between, with some of its brackets left out: it may be read otherwise then."""
    text = shown_term(term).replace("(", " ( ").replace(")", " ) ").replace(",", " , ").replace("[]", "[ ]")
    row = text.split()
    closers = {}
    standing = []
    for at, word in enumerate(row):
        if word == "(":
            standing.append(at)
        if word == ")":
            closers[standing.pop()] = at
    gone = set()
    for at, closer in closers.items():
        if (at == 0 or row[at - 1] not in NAMES) and chance.random() < 0.7:
            gone.update((at, closer))
    return " ".join(word for at, word in enumerate(row) if at not in gone)


if __name__ == "__main__":
    unittest.main()
