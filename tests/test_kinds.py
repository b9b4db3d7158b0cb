"""Points 10 and 12: how kinds are written."""

import unittest

from helpers import seeded
from speakmill.kinds import kind_text

NUMBER, TRUTH = ("number",), ("truth",)


def any_kind(chance, depth):
    form = chance.choice(("number", "truth", "list", "fn", "fn")) if depth > 1 else chance.choice(("number", "truth"))
    many = {"list": 1, "fn": 2}.get(form, 0)
    return (form,) + tuple(any_kind(chance, depth - 1) for part in range(many))


def text_by_calls(kind, is_within=False):
    if kind[0] == "list":
        text = "list of " + text_by_calls(kind[1], True)
    elif kind[0] == "fn":
        text = "fn " + text_by_calls(kind[1], True) + " to " + text_by_calls(kind[2], True)
    else:
        return kind[0]
    return "(" + text + ")" if is_within else text


class KindTextTest(unittest.TestCase):
    def test_each_kind(self):
        numbers, truths = ("list", NUMBER), ("list", TRUTH)
        for kind, text in (
            (NUMBER, "number"),
            (TRUTH, "truth"),
            (numbers, "list of number"),
            (truths, "list of truth"),
            (("list", numbers), "list of (list of number)"),
            (("list", ("list", truths)), "list of (list of (list of truth))"),
            (("fn", NUMBER, NUMBER), "fn number to number"),
            (("fn", NUMBER, TRUTH), "fn number to truth"),
            (("fn", TRUTH, NUMBER), "fn truth to number"),
            (("fn", numbers, NUMBER), "fn (list of number) to number"),
            (("fn", NUMBER, numbers), "fn number to (list of number)"),
            (("fn", numbers, truths), "fn (list of number) to (list of truth)"),
            (("fn", ("fn", NUMBER, TRUTH), TRUTH), "fn (fn number to truth) to truth"),
            (("fn", TRUTH, ("fn", NUMBER, TRUTH)), "fn truth to (fn number to truth)"),
            (("list", ("fn", NUMBER, TRUTH)), "list of (fn number to truth)"),
            (("list", ("fn", truths, ("list", numbers))), "list of (fn (list of truth) to (list of (list of number)))"),
            (("fn", ("list", ("fn", NUMBER, NUMBER)), TRUTH), "fn (list of (fn number to number)) to truth"),
        ):
            self.assertEqual(kind_text(kind), text)
            self.assertIs(type(kind_text(kind)), str)

    def test_the_points_own_example(self):
        self.assertEqual(kind_text(("fn", ("list", NUMBER), ("fn", TRUTH, NUMBER))),
                         "fn (list of number) to (fn truth to number)")

    def test_any_kinds(self):
        chance = seeded(12)
        for many in range(300):
            kind = any_kind(chance, 6)
            kept = repr(kind)
            self.assertEqual(kind_text(kind), text_by_calls(kind))
            self.assertEqual(repr(kind), kept)

    def test_more_words_than_a_program_has(self):
        kind, text = NUMBER, "number"
        for many in range(2000):
            kind, text = ("list", kind), "list of " + (text if many == 0 else "(" + text + ")")
        self.assertEqual(kind_text(kind), text)


if __name__ == "__main__":
    unittest.main()
