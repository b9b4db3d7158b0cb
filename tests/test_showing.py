"""Point 6: programs and terms as texts."""

import unittest

from helpers import ONE_WORDS, SIGNS, any_program, any_term, refuses, seeded
from speakmill.reading import read
from speakmill.showing import shown, shown_term
from speakmill.trees import depth_of, parts_of, size_of
from speakmill.words import words

A, B, C, D = ("name", "a"), ("name", "b"), ("name", "c"), ("name", "d")
ONE = ("number", 1)

# Each of the eleven forms alone, with its text.
FORMS = [
    (("number", 0), "0"),
    (("number", 7), "7"),
    (("number", 999999999999), "999999999999"),
    (("truth", True), "yes"),
    (("truth", False), "no"),
    (("none",), "[]"),
    (A, "a"),
    (("name", "longname"), "longname"),
    (("if", C, A, B), "(if c then a else b)"),
    (("let", "x", A, B), "(let x = a in b)"),
    (("fn", "x", A), "(fn x => a)"),
    (("do", ("name", "f"), A), "(f ! a)"),
    (("call", "f", ()), "f()"),
    (("call", "f", (A,)), "f(a)"),
    (("call", "f", (A, B)), "f(a, b)"),
    (("call", "f", (A, B, C)), "f(a, b, c)"),
    (("call", "f", (A, B, C, D)), "f(a, b, c, d)"),
    (("call", "f", (A, B, C, D, A, B)), "f(a, b, c, d, a, b)"),
] + [(("two", sign, A, B), "(a " + sign + " b)") for sign in SIGNS] + [
    (("one", word, A), "(" + word + " a)") for word in ONE_WORDS]

# Each place of a part, and the text round it.
PLACES = [
    (lambda term: ("if", term, A, B), "(if ", " then a else b)"),
    (lambda term: ("if", A, term, B), "(if a then ", " else b)"),
    (lambda term: ("if", A, B, term), "(if a then b else ", ")"),
    (lambda term: ("let", "y", term, B), "(let y = ", " in b)"),
    (lambda term: ("let", "y", A, term), "(let y = a in ", ")"),
    (lambda term: ("fn", "y", term), "(fn y => ", ")"),
    (lambda term: ("do", term, A), "(", " ! a)"),
    (lambda term: ("do", A, term), "(a ! ", ")"),
    (lambda term: ("call", "g", (term,)), "g(", ")"),
    (lambda term: ("call", "g", (term, A)), "g(", ", a)"),
    (lambda term: ("call", "g", (A, term, B)), "g(a, ", ", b)"),
    (lambda term: ("call", "g", (A, B, C, term)), "g(a, b, c, ", ")"),
] + [(lambda term, sign=sign: ("two", sign, term, A), "(", f" {sign} a)") for sign in SIGNS] + [
    (lambda term, sign=sign: ("two", sign, A, term), f"(a {sign} ", ")") for sign in SIGNS] + [
    (lambda term, word=word: ("one", word, term), f"({word} ", ")") for word in ONE_WORDS]


def every_term(term):
    found = [term]
    for part in found:
        found.extend(parts_of(part))
    return found


class TermTest(unittest.TestCase):
    def test_each_form_alone(self):
        for term, text in FORMS:
            self.assertEqual(shown_term(term), text)
            self.assertIs(type(shown_term(term)), str)

    def test_each_form_within_each_other_one(self):
        for term, text in FORMS:
            for put, ahead, behind in PLACES:
                self.assertEqual(shown_term(put(term)), ahead + text + behind)
                for further, far_ahead, far_behind in PLACES:
                    self.assertEqual(shown_term(further(put(term))), far_ahead + ahead + text + behind + far_behind)

    def test_brackets_where_they_are_asked_for_and_nowhere_else(self):
        chance = seeded(61)
        for many in range(200):
            term = any_term(chance, 6)
            text = shown_term(term)
            wanted = [part for part in every_term(term) if part[0] not in ("number", "truth", "none", "name")]
            self.assertEqual(text.count("("), len(wanted))
            self.assertEqual(text.count(")"), len(wanted))

    def test_deeper_than_is_read(self):
        term, text = A, "a"
        for many in range(3000):
            term = ("one", "head", term) if many % 2 else ("two", "-", term, ONE)
            text = f"(head {text})" if many % 2 else f"({text} - 1)"
        self.assertEqual(shown_term(term), text)


class ProgramTest(unittest.TestCase):
    def test_names_of_functions(self):
        for many, text in enumerate(("def f() = 1", "def f(a) = 1", "def f(a, b) = 1", "def f(a, b, c) = 1",
                                     "def f(a, b, c, d) = 1", "def f(a, b, c, d, e) = 1")):
            self.assertEqual(shown((("def", "f", tuple("abcde"[:many]), ONE),)), text)

    def test_the_points_own_example(self):
        self.assertEqual(shown((("def", "f", ("x", "y"), A),)), "def f(x, y) = a")

    def test_line_ends_between_functions_and_none_behind_the_last_one(self):
        for many in (1, 2, 3, 12, 14):
            program = tuple(("def", f"f{k}", ("x",), ("two", "+", A, ("number", k))) for k in range(many))
            text = shown(program)
            self.assertEqual(text.split("\n"), [f"def f{k}(x) = (a + {k})" for k in range(many)])
            self.assertEqual(text.count("\n"), many - 1)
            self.assertIs(type(text), str)

    def test_each_form_as_a_body(self):
        for term, text in FORMS:
            self.assertEqual(shown((("def", "main", (), term), ("def", "g", (), ONE))),
                             f"def main() = {text}\ndef g() = 1")

    def test_what_is_handed_in_stays_as_it_is(self):
        for term, text in FORMS:
            program = (("def", "f", ("x",), term),)
            kept = repr(program)
            self.assertEqual(shown(program), shown(program))
            self.assertEqual(repr(program), kept)


class ReadBackTest(unittest.TestCase):
    def is_let_by(self, program):
        bodies = [function[3] for function in program]
        return max(depth_of(body) for body in bodies) <= 16 and sum(size_of(body) for body in bodies) <= 400

    def test_each_form_within_each_other_one(self):
        for term, text in FORMS:
            for put, ahead, behind in PLACES:
                if len(parts_of(term)) <= 4:
                    program = (("def", "f", ("x",), put(term)), ("def", "g", (), term))
                    self.assertEqual(repr(read(shown(program))), repr(program))

    def test_any_programs(self):
        chance = seeded(62)
        let_by = 0
        for many in range(300):
            program = any_program(chance, (2, 4, 8, 16)[many % 4])
            text = shown(program)
            if len(text) <= 4000 and self.is_let_by(program):
                let_by += 1
                self.assertEqual(repr(read(text)), repr(program))
            else:
                refuses(self, read, text)
        self.assertGreater(let_by, 100)

    def test_other_gaps_between_the_words(self):
        chance = seeded(63)
        for many in range(80):
            program = any_program(chance, 4)
            text = shown(program)
            if len(text) < 1000:
                for gap in (" ", "\n", "\t", " \n\t"):
                    self.assertEqual(repr(read(gap + gap.join(words(text)) + gap)), repr(program))

    def test_as_deep_and_as_long_as_can_be(self):
        for put, ahead, behind in PLACES:
            term = A
            for many in range(15):
                term = put(term)
            program = (("def", "main", (), term),)
            self.assertEqual(read(shown(program)), program)

    def test_as_long_as_can_be(self):
        for length in (3990, 3999, 4000):
            program = self.program_of_length(length)
            self.assertEqual(len(shown(program)), length)
            self.assertEqual(read(shown(program)), program)
        for length in (4001, 4010):
            text = shown(self.program_of_length(length))
            self.assertEqual(len(text), length)
            refuses(self, read, text)

    def program_of_length(self, length):
        body = self.long_term(31, "abcdefgh")
        program = tuple(("def", f"f{k}", ("a" * 8, "b" * 8, "c" * 8, "d" * 8), body) for k in range(12))
        for k in range(12):
            # One sign is taken away from a parameter's name for each one too many.
            names = tuple(name[:max(1, 8 - max(0, len(shown(program)) - length - 7 * at))]
                          for at, name in enumerate(program[k][2]))
            program = program[:k] + (("def", f"f{k}", names, body),) + program[k + 1:]
        return program

    def long_term(self, size, name):
        if size == 1:
            return ("name", name)
        return ("call", name, (self.long_term(size // 2, name), self.long_term(size // 2, name)))


if __name__ == "__main__":
    unittest.main()
