"""What several tests share."""

import random

from speakmill.errors import BadInput, BadKind, BadName, BadText, MillError

SIGNS = "<=:+-*/"
ONE_WORDS = ("head", "tail", "empty", "not")
TOLD_WORDS = ("def", "if", "then", "else", "let", "in", "fn", "yes", "no") + ONE_WORDS
NAMES = ("x", "y", "f", "g1", "longname")


def refuses(test, do, text):
    """Asks for BadText, which is taken as MillError and ValueError, and as none of the others."""
    with test.assertRaises(BadText, msg=text) as caught:
        do(text)
    test.assertIsInstance(caught.exception, MillError)
    test.assertIsInstance(caught.exception, ValueError)
    test.assertNotIsInstance(caught.exception, (BadName, BadKind, BadInput))


def shown_term(term):
    """A term with all its brackets, as point 6 writes it."""
    form = term[0]
    if form == "number":
        return str(term[1])
    if form == "truth":
        return "yes" if term[1] else "no"
    if form == "none":
        return "[]"
    if form == "name":
        return term[1]
    if form == "two":
        return f"({shown_term(term[2])} {term[1]} {shown_term(term[3])})"
    if form == "one":
        return f"({term[1]} {shown_term(term[2])})"
    if form == "if":
        return f"(if {shown_term(term[1])} then {shown_term(term[2])} else {shown_term(term[3])})"
    if form == "let":
        return f"(let {term[1]} = {shown_term(term[2])} in {shown_term(term[3])})"
    if form == "fn":
        return f"(fn {term[1]} => {shown_term(term[2])})"
    if form == "do":
        return f"({shown_term(term[1])} ! {shown_term(term[2])})"
    return f"{term[1]}({', '.join(shown_term(part) for part in term[2])})"


def shown(program):
    return "\n".join(f"def {name}({', '.join(names)}) = {shown_term(body)}" for word, name, names, body in program)


def any_term(chance, depth):
    """A term of at most this depth, by a random.Random."""
    leaves = (
        ("number", chance.choice((0, 1, 10, 999999999999))), ("truth", chance.random() < 0.5), ("none",),
        ("name", chance.choice(NAMES)), ("call", chance.choice(NAMES), ()),
    )
    if depth == 1 or chance.random() < 0.1:
        return chance.choice(leaves)
    form = chance.choice(("two", "two", "two", "one", "if", "let", "fn", "do", "call"))
    name = chance.choice(NAMES)
    heads = {"two": (chance.choice(SIGNS),), "one": (chance.choice(ONE_WORDS),), "let": (name,), "fn": (name,)}
    many = {"two": 2, "one": 1, "if": 3, "let": 2, "fn": 1, "do": 2, "call": chance.randint(0, 4)}[form]
    parts = tuple(any_term(chance, depth - 1) for part in range(many))
    if form == "call":
        return ("call", name, parts)
    return (form,) + heads.get(form, ()) + parts


def seeded(number):
    return random.Random(number)
