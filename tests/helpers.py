"""What several tests share."""

import random
import sys
import unittest

from speakmill.cells import Cells
from speakmill.compiling import compiled
from speakmill.errors import BadInput, BadKind, BadName, BadText, MillError
from speakmill.reading import read
from speakmill.scopes import placed

SIGNS = "<=:+-*/"
ONE_WORDS = ("head", "tail", "empty", "not")
TOLD_WORDS = ("def", "if", "then", "else", "let", "in", "fn", "yes", "no") + ONE_WORDS
NAMES = ("x", "y", "f", "g1", "longname")


REFUSALS = (BadText, BadName, BadKind, BadInput)


def refuses(test, do, *given, refusal=BadText):
    """Asks for one refusal, which is taken as MillError and ValueError, and as none of the others."""
    # A tree may be too great to be shown.
    texts = [one for one in given if isinstance(one, str)]
    with test.assertRaises(refusal, msg=texts) as caught:
        do(*given)
    test.assertIsInstance(caught.exception, MillError)
    test.assertIsInstance(caught.exception, ValueError)
    others = tuple(other for other in REFUSALS if other is not refusal)
    test.assertNotIsInstance(caught.exception, others)


class DeepCallsTest(unittest.TestCase):
    """For tests that hold the program to something that goes by calls of Python's, sixty deep and more."""

    def setUp(self):
        self.limit = sys.getrecursionlimit()
        sys.setrecursionlimit(10000)

    def tearDown(self):
        sys.setrecursionlimit(self.limit)


def any_term(chance, depth):
    """A term of at most this depth, by a random.Random."""
    leaves = (
        ("number", chance.choice((0, 1, 10, 999999999999))), ("truth", chance.random() < 0.5), ("none",),
        ("name", chance.choice(NAMES)), ("call", chance.choice(NAMES), ()),
    )
    if depth == 1 or chance.random() < 0.1:
        return chance.choice(leaves)
    form = chance.choice(("two", "two", "two", "one", "if", "let", "fn", "do", "call"))
    name = chance.choice(NAMES)
    heads = {"two": (chance.choice(SIGNS),), "one": (chance.choice(ONE_WORDS),), "let": (name,), "fn": (name,)}
    many = {"two": 2, "one": 1, "if": 3, "let": 2, "fn": 1, "do": 2, "call": chance.randint(0, 4)}[form]
    parts = tuple(any_term(chance, depth - 1) for part in range(many))
    if form == "call":
        return ("call", name, parts)
    return (form,) + heads.get(form, ()) + parts


def any_program(chance, depth):
    return tuple(
        ("def", chance.choice(NAMES), tuple(chance.choice(NAMES) for name in range(chance.randint(0, 4))),
         any_term(chance, chance.randint(1, depth)))
        for function in range(chance.randint(1, 12)))


def seeded(number):
    return random.Random(number)


def cell(number):
    return ("cell", number)


def cells_of(*put):
    """Cells into which these were put."""
    cells = Cells()
    for one in put:
        cells.put(one)
    return cells


def compiled_text(text):
    return compiled(placed(read(text)))
