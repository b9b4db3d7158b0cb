"""Point 4: the parts, the depth and the size of a term."""

import unittest

from helpers import any_term, seeded
from speakmill.trees import depth_of, parts_of, size_of

ONE = ("number", 1)
X = ("name", "x")
NONE = ("none",)
PAIR = ("two", ":", ONE, NONE)

# Each form with its parts, its depth and its size.
FORMS = (
    (("number", 0), [], 1, 1),
    (("truth", True), [], 1, 1),
    (("truth", False), [], 1, 1),
    (NONE, [], 1, 1),
    (X, [], 1, 1),
    (("two", "<", ONE, X), [ONE, X], 2, 3),
    (("two", "-", PAIR, X), [PAIR, X], 3, 5),
    (("two", ":", X, PAIR), [X, PAIR], 3, 5),
    (("one", "head", PAIR), [PAIR], 3, 4),
    (("one", "not", X), [X], 2, 2),
    (("if", X, PAIR, NONE), [X, PAIR, NONE], 3, 6),
    (("if", PAIR, X, NONE), [PAIR, X, NONE], 3, 6),
    (("if", NONE, X, PAIR), [NONE, X, PAIR], 3, 6),
    (("let", "y", ONE, X), [ONE, X], 2, 3),
    (("let", "y", PAIR, X), [PAIR, X], 3, 5),
    (("fn", "y", PAIR), [PAIR], 3, 4),
    (("do", X, ONE), [X, ONE], 2, 3),
    (("do", X, PAIR), [X, PAIR], 3, 5),
    (("call", "f", ()), [], 1, 1),
    (("call", "f", (ONE,)), [ONE], 2, 2),
    (("call", "f", (ONE, X, PAIR, NONE)), [ONE, X, PAIR, NONE], 3, 7),
    (("call", "f", (ONE, ONE, ONE, ONE, ONE)), [ONE] * 5, 2, 6),
)


def depth_by_calls(term):
    return 1 + max([depth_by_calls(part) for part in parts_of(term)], default=0)


def size_by_calls(term):
    return 1 + sum(size_by_calls(part) for part in parts_of(term))


class TreeTest(unittest.TestCase):
    def test_each_form(self):
        for term, parts, depth, size in FORMS:
            self.assertEqual(parts_of(term), parts)
            self.assertIs(type(parts_of(term)), list)
            self.assertEqual(depth_of(term), depth, msg=term)
            self.assertEqual(size_of(term), size, msg=term)

    def test_forms_within_one_another(self):
        for outer, parts, depth, size in FORMS:
            within = ("if", outer, ("fn", "x", outer), ("call", "f", (X, ("one", "tail", outer))))
            self.assertEqual(depth_of(within), depth + 3)
            self.assertEqual(size_of(within), 3 * size + 5)

    def test_any_terms(self):
        chance = seeded(4)
        for many in range(300):
            term = any_term(chance, 6)
            self.assertEqual(depth_of(term), depth_by_calls(term))
            self.assertEqual(size_of(term), size_by_calls(term))

    def test_a_new_list_each_time(self):
        for term, parts, depth, size in FORMS:
            kept = repr(term)
            told = parts_of(term)
            self.assertIsNot(told, parts_of(term))
            told.append("more")
            self.assertEqual(parts_of(term), parts)
            self.assertEqual(repr(term), kept)

    def test_deeper_and_greater_than_is_read(self):
        term = X
        for many in range(5000):
            term = ("two", "+", ONE, term) if many < 2500 else ("one", "head", term)
        self.assertEqual(depth_of(term), 5001)
        self.assertEqual(size_of(term), 7501)

    def test_numbers_are_ints(self):
        self.assertIs(type(depth_of(X)), int)
        self.assertIs(type(size_of(X)), int)


if __name__ == "__main__":
    unittest.main()
