"""Points 13 and 23: what is reckoned ahead, and keeps that are taken away."""

import itertools
import unittest

from helpers import seeded
from speakmill.folding import folded
from speakmill.numbers import GREATEST
from tracing import any_rows, fold_faults, push, skip, traced, unless

BACK, NOT, CONS, NONE = ("back",), ("not",), ("cons",), ("none",)
YES, NO = ("push", True), ("push", False)
LOAD0, LOAD1, KEEP0, KEEP1 = ("load", 0), ("load", 1), ("keep", 0), ("keep", 1)
WORDS = ("add", "sub", "mul", "div", "less", "same")


def two(a, word, b):
    return (push(a), push(b), (word,))


class FoldedTest(unittest.TestCase):
    def tells(self, rows, expected):
        kept = repr(rows)
        for many in range(2):
            told = folded(rows)
            self.assertEqual((type(told), repr(told)), (tuple, repr(expected)))
        self.assertEqual(repr(folded(told)), repr(told))
        self.assertEqual(repr(rows), kept)

    def stays(self, rows):
        self.tells(rows, rows)


class NumbersTest(FoldedTest):
    def becomes(self, a, word, b, value):
        self.tells(two(a, word, b) + (BACK,), (push(value), BACK))

    def stays_two(self, a, word, b):
        self.stays(two(a, word, b) + (BACK,))

    def test_each_sign(self):
        for word, value in (("add", 9), ("sub", 5), ("mul", 14), ("div", 3), ("less", False), ("same", False)):
            self.becomes(7, word, 2, value)
        for word, value in (("add", -5), ("sub", -9), ("mul", -14), ("div", -4), ("less", True), ("same", False)):
            self.becomes(-7, word, 2, value)
        for word, value in (("add", 0), ("sub", 0), ("mul", 0), ("less", False), ("same", True)):
            self.becomes(0, word, 0, value)

    def test_great_ones(self):
        self.becomes(GREATEST - 1, "add", 1, GREATEST)
        self.becomes(GREATEST, "add", 0, GREATEST)
        self.stays_two(GREATEST, "add", 1)
        self.becomes(1 - GREATEST, "add", -1, -GREATEST)
        self.stays_two(-GREATEST, "add", -1)
        self.becomes(1 - GREATEST, "sub", 1, -GREATEST)
        self.stays_two(-GREATEST, "sub", 1)
        self.stays_two(GREATEST, "sub", -1)
        self.becomes(10 ** 20, "mul", 10 ** 20, GREATEST)
        self.becomes(-10 ** 20, "mul", 10 ** 20, -GREATEST)
        self.stays_two(10 ** 20, "mul", 10 ** 20 + 1)
        self.stays_two(-10 ** 20, "mul", 10 ** 20 + 1)
        self.becomes(GREATEST, "mul", 1, GREATEST)
        self.becomes(GREATEST, "mul", -1, -GREATEST)

    def test_those_beyond_it(self):
        more = GREATEST + 1
        for word in ("add", "sub", "mul"):
            self.stays_two(more, word, 0 if word != "mul" else 1)
            self.stays_two(-more, word, 0 if word != "mul" else 1)
        self.becomes(more, "sub", 1, GREATEST)
        self.becomes(more, "add", -more, 0)
        self.becomes(more, "mul", 0, 0)
        self.becomes(more, "less", -more, False)
        self.becomes(GREATEST, "less", more, True)
        self.becomes(more, "same", more, True)
        self.becomes(more, "same", GREATEST, False)
        self.becomes(7 ** 200, "sub", 7 ** 200 - 5, 5)

    def test_quotients(self):
        for a, b, value in ((7, 2, 3), (-7, 2, -4), (7, -2, -4), (-7, -2, 3), (0, 5, 0), (1, 10, 0), (-1, 10, -1),
                            (GREATEST, 1, GREATEST), (GREATEST, -1, -GREATEST), (7 ** 200, 7 ** 199, 7)):
            self.becomes(a, "div", b, value)
        for a in (0, 1, -1, GREATEST, -GREATEST, GREATEST + 1):
            self.stays_two(a, "div", 0)

    def test_a_quotient_beyond_greatest_is_told(self):
        self.becomes(GREATEST * 5, "div", 2, GREATEST * 5 // 2)

    def test_truths_are_no_numbers(self):
        for word in WORDS:
            for a, b in ((True, 1), (1, True), (True, False), (False, 0), (0, False)):
                self.stays_two(a, word, b)

    def test_one_that_is_not_pushed(self):
        for word in WORDS:
            self.stays((LOAD0, push(1), (word,), BACK))
            self.stays((push(1), LOAD0, (word,), BACK))
            self.stays((push(1), push(2), LOAD0, (word,), BACK))

    def test_other_rows_behind_two_pushes(self):
        for row in (CONS, ("call", 0, 2), ("apply",), ("close", 1, 2), NOT, ("head",), ("empty",), unless(0), KEEP0):
            self.stays((push(1), push(2), row, BACK))

    def test_one_within_the_other(self):
        self.tells(two(1, "add", 2) + two(3, "add", 4) + (("mul",), BACK), (push(21), BACK))
        self.tells((push(1),) + two(2, "sub", 5) + (("mul",), BACK), (push(-3), BACK))
        self.tells(two(1, "div", 0) + (push(3), ("add",), BACK), two(1, "div", 0) + (push(3), ("add",), BACK))
        self.tells(two(1, "div", 0) + two(3, "add", 4) + (("add",), BACK), two(1, "div", 0) + (push(7), ("add",), BACK))
        self.tells((LOAD0,) + two(3, "add", 4) + (("add",), BACK), (LOAD0, push(7), ("add",), BACK))

    def test_many(self):
        rows = (push(0),) + (push(1), ("add",)) * 5000 + (BACK,)
        self.tells(rows, (push(5000), BACK))
        self.tells((push(1),) * 5001 + (("add",),) * 5000 + (BACK,), (push(5001), BACK))

    def test_a_jump_to_the_first_row(self):
        self.tells((LOAD0, unless(1), NOT) + two(1, "add", 2) + (BACK,), (LOAD0, unless(1), NOT, push(3), BACK))

    def test_a_jump_to_the_second_row(self):
        self.stays((LOAD0, LOAD1, unless(1)) + two(1, "add", 2) + (BACK,))
        self.stays((LOAD0, LOAD1, unless(2), push(5), skip(1)) + two(1, "add", 2) + (BACK,))

    def test_a_jump_to_the_third_row(self):
        self.stays((LOAD0, LOAD0, LOAD1, unless(2)) + two(1, "add", 2) + (BACK,))

    def test_a_jump_behind_it_and_over_it(self):
        self.tells((LOAD0, LOAD1, unless(3)) + two(1, "add", 2) + (BACK,), (LOAD0, LOAD1, unless(1), push(3), BACK))
        self.tells((LOAD1, unless(4)) + two(1, "add", 2) + (BACK, push(4), BACK),
                   (LOAD1, unless(2), push(3), BACK, push(4), BACK))

    # No jump leads there that is never done.
    def test_an_unreached_jump_to_the_second_row(self):
        for jump in (skip(1), unless(1)):
            told = folded((skip(1), jump) + two(1, "add", 2) + (BACK,))
            self.assertEqual(fold_faults(told), [])
            self.assertEqual(told[-2:], (push(3), BACK))


class TruthsTest(FoldedTest):
    def test_not(self):
        self.tells((YES, NOT, BACK), (NO, BACK))
        self.tells((NO, NOT, BACK), (YES, BACK))
        self.tells((NO, NOT, NOT, NOT, BACK), (YES, BACK))
        self.tells((YES,) + (NOT,) * 5000 + (BACK,), (YES, BACK))

    def test_unless_of_yes(self):
        self.tells((YES, unless(2), push(1), BACK, push(2), BACK), (push(1), BACK))
        self.tells((LOAD0, YES, unless(1), NOT, BACK), (LOAD0, NOT, BACK))
        self.tells((LOAD0, YES, unless(0), BACK), (LOAD0, BACK))

    def test_unless_of_no(self):
        self.tells((NO, unless(2), push(1), BACK, push(2), BACK), (skip(0), push(2), BACK))
        self.tells((LOAD0, NO, unless(1), NOT, BACK), (LOAD0, skip(0), BACK))
        self.tells((LOAD0, NO, unless(0), BACK), (LOAD0, skip(0), BACK))
        self.tells((LOAD0, unless(3), LOAD1, NO, unless(1), NOT, BACK), (LOAD0, unless(2), LOAD1, skip(1), NOT, BACK))

    def test_what_is_reckoned_ahead(self):
        self.tells(two(1, "less", 2) + (NOT, BACK), (NO, BACK))
        self.tells(two(1, "less", 2) + (unless(2), push(1), BACK, push(2), BACK), (push(1), BACK))
        self.tells(two(1, "same", 2) + (NOT, unless(2), push(1), BACK, push(2), BACK), (push(1), BACK))

    def test_numbers_are_no_truths(self):
        for n in (0, 1, 5):
            self.stays((push(n), NOT, BACK))
            self.stays((LOAD0, push(n), unless(1), NOT, BACK))

    def test_what_is_not_pushed(self):
        self.stays((LOAD0, NOT, NOT, BACK))
        self.stays((LOAD0, unless(1), NOT, BACK))
        self.stays((YES, NONE, NOT, BACK))

    def test_a_jump_to_the_truth(self):
        self.tells((LOAD1, unless(1), NONE, YES, NOT, BACK), (LOAD1, unless(1), NONE, NO, BACK))
        self.tells((LOAD0, LOAD1, unless(1), NOT, YES, unless(1), NOT, ("empty",), BACK),
                   (LOAD0, LOAD1, unless(1), NOT, NOT, ("empty",), BACK))
        self.tells((LOAD1, unless(1), NONE, NO, unless(2), push(1), BACK, push(2), BACK),
                   (LOAD1, unless(1), NONE, skip(0), push(2), BACK))

    def test_a_jump_to_the_second_row(self):
        self.stays((LOAD0, LOAD1, unless(1), YES, NOT, BACK))
        self.stays((LOAD0, LOAD0, LOAD1, unless(1), YES, unless(1), NOT, BACK))
        self.stays((LOAD0, unless(2), YES, skip(1), NO, NOT, BACK))

    # Where the jump to what is taken away then goes on, something else is led to.
    def test_a_jump_goes_on_behind_what_is_taken_away(self):
        self.tells((LOAD0, LOAD0, unless(1), push(1), YES, unless(1), NOT, push(2), ("add",), BACK),
                   (LOAD0, LOAD0, unless(1), push(1), NOT, push(2), ("add",), BACK))
        self.tells((LOAD0, LOAD0, unless(1), push(1), YES, unless(0), push(2), ("add",), BACK),
                   (LOAD0, LOAD0, unless(1), push(1), push(2), ("add",), BACK))

    # The unless that is taken away was the one jump to the second push, the not, or the load.
    def test_what_comes_of_a_jump_that_is_gone(self):
        self.tells((YES, unless(1), push(1), push(2), ("add",), BACK), (push(3), BACK))
        self.tells((YES, unless(1), NO, NOT, BACK), (YES, BACK))
        self.tells((LOAD1, YES, unless(1), KEEP0, LOAD0, BACK), (LOAD1, BACK))


class KeepsTest(FoldedTest):
    def test_one_load(self):
        self.tells((LOAD1, KEEP0, LOAD0, BACK), (LOAD1, BACK))
        self.tells((push(1), KEEP0, LOAD0, push(2), ("add",), BACK), (push(3), BACK))
        self.tells((YES, KEEP0, LOAD0, NOT, BACK), (NO, BACK))

    def test_two_loads(self):
        self.stays((push(1), KEEP0, LOAD0, LOAD0, ("add",), BACK))
        self.stays((LOAD0, KEEP0, LOAD0, BACK))
        self.stays((push(1), KEEP0, LOAD0, KEEP0, LOAD0, BACK))
        self.stays((LOAD1, unless(4), push(1), KEEP0, LOAD0, BACK, LOAD0, BACK))

    def test_no_load(self):
        self.stays((push(1), KEEP0, push(2), BACK))

    def test_another_slot(self):
        self.stays((push(1), KEEP0, LOAD1, BACK))
        self.stays((push(1), push(2), KEEP0, KEEP1, LOAD0, ("close", 1, 1), BACK))
        self.tells((push(1), KEEP0, LOAD0, KEEP1, LOAD1, BACK), (push(1), BACK))

    def test_a_row_between(self):
        self.stays((LOAD1, KEEP0, NONE, LOAD0, CONS, BACK))

    def test_two_keeps_of_a_slot(self):
        self.tells((push(5), KEEP0, LOAD1, KEEP0, LOAD0, BACK), (push(5), KEEP0, LOAD1, BACK))

    def test_a_jump_to_the_keep(self):
        self.tells((LOAD1, LOAD1, unless(1), NOT, KEEP0, LOAD0, BACK), (LOAD1, LOAD1, unless(1), NOT, BACK))

    def test_a_jump_to_the_load(self):
        self.stays((LOAD1, LOAD1, unless(1), KEEP0, LOAD0, BACK))

    # What loads the slot besides is taken away itself, or is never reached.
    def test_what_comes_of_a_load_that_is_gone(self):
        self.tells((LOAD1, KEEP0, LOAD0, YES, unless(2), ("empty",), BACK, LOAD0, BACK), (LOAD1, ("empty",), BACK))
        self.tells((LOAD1, KEEP0, LOAD0, skip(1), LOAD0, BACK), (LOAD1, skip(0), BACK))
        self.tells((LOAD1, KEEP0, LOAD0, BACK, LOAD0, BACK), (LOAD1, BACK))
        self.tells((YES, KEEP0, LOAD0, unless(2), push(1), BACK, push(2), BACK), (push(1), BACK))

    # By the one load that is gone a truth comes to stand ahead of an unless, and by this another load is gone.
    def test_one_after_the_other(self):
        rows = (BACK,)
        for slot in range(30):
            rows = (YES, ("keep", slot), ("load", slot), unless(len(rows))) + rows + (("load", slot + 1), BACK)
        self.tells(rows, (BACK,))

    def test_calls_and_cells_stay(self):
        self.stays((LOAD0, LOAD1, CONS, ("call", 1, 1), ("close", 2, 1), LOAD0, ("apply",), ("head",), ("tail",), NONE,
                    CONS, ("empty",), BACK))


class AnyRowsTest(unittest.TestCase):
    def test_any(self):
        chance = seeded(2300)
        words = []
        for many in range(2500):
            rows = any_rows(chance, 4 + many % 25)
            kept = repr(rows)
            told = folded(rows)
            words += [word for word, number in fold_faults(rows)]
            self.assertEqual(fold_faults(told), [], msg=rows)
            self.assertLessEqual(len(told), len(rows))
            self.assertEqual(repr(folded(rows)), repr(told))
            self.assertEqual(repr(rows), kept)
            self.assertEqual(told[-1], BACK)
            for finds in itertools.product((True, False), repeat=4):
                done, rows_done = traced(rows, finds)
                done_now, rows_done_now = traced(told, finds)
                self.assertEqual(done_now, done, msg=rows)
                self.assertLessEqual(rows_done_now, rows_done, msg=rows)
        for word in ("numbers", "truth", "keep"):
            self.assertGreater(words.count(word), 300, msg=word)


if __name__ == "__main__":
    unittest.main()
