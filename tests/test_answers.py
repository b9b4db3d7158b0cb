"""Point 25: the machine, shortened or not and by any rounds, answers as reckoning does."""

import unittest

from evaluating import evaluated
from examples import TEXTS
from filling import any_kinded_program
from helpers import DeepCallsTest, seeded
from speakmill.errors import MillError
from speakmill.numbers import GREATEST
from speakmill.reading import read
from speakmill.running import answer, plain_answer, run_told
from speakmill.showing import shown

UPTO = " def upto(n) = if n < 1 then [] else n : upto(n - 1)"
NOUGHT, GREAT, DRY, DEEP = ("refused", "nought"), ("refused", "great"), ("dry",), ("deep",)


def value(told):
    return ("value", told)


# A text, and numbers with the answer for them by a most of 1000.
ANSWERS = (
    ("def main(a, b) = a + b * 2 - a / b", (([7, 2], value(8)), ([-7, 2], value(1)), ([1, 0], NOUGHT))),
    ("def main(a, b) = a / b", (([-7, 2], value(-4)), ([7, -2], value(-4)), ([GREATEST, 1], value(GREATEST)),
                                ([0, 0], NOUGHT))),
    ("def main(a, b) = a * b", (([10 ** 20, 10 ** 20], value(GREATEST)), ([10 ** 20, 10 ** 20 + 1], GREAT),
                                ([-10 ** 20, 10 ** 20], value(-GREATEST)), ([-GREATEST, 2], GREAT))),
    ("def main(a, b) = (a < b) : (a = b) : []", (([1, 2], value([True, False])), ([2, 2], value([False, True])))),
    ("def main(a) = if not (a = 1) then 1 / (a - 2) else a + 99",
     (([1], value(100)), ([2], NOUGHT), ([GREATEST], value(0)))),
    ("def main(a) = if a < 1 then a : [] else if a < 2 then [] else 1 : 2 : []",
     (([0], value([0])), ([1], value([])), ([2], value([1, 2])))),
    ("def main(a) = let x = a + 1 in let y = x * x in let x = y - x in x : y : a : []",
     (([1], value([2, 4, 1])), ([GREATEST], GREAT))),
    ("def main(n) = head drop(n, 1 : 2 : 3 : []) def drop(n, x) = if n < 1 then x else drop(n - 1, tail x)",
     (([0], value(1)), ([2], value(3)), ([3], ("refused", "head")), ([4], ("refused", "tail")))),
    # An fn that tells fns.
    ("def main(n) = (fn x => fn y => fn z => x : y : z : n : []) ! 1 ! 2 ! 3", (([4], value([1, 2, 3, 4])),)),
    ("def main(n) = twice(twice(fn x => x + n)) ! 0 def twice(f) = fn x => f ! (f ! x)",
     (([5], value(20)), ([-1], value(-4)), ([GREATEST], GREAT))),
    ("def main(n) = let add = fn x => fn y => x + y in let inc = add ! 1 in inc ! (inc ! n)", (([5], value(7)),)),
    # Fns in a list, and lists in an fn.
    ("def main(n) = all((fn x => x + 1) : (fn x => x * n) : (fn x => x / n) : [], 7) "
     "def all(f, x) = if empty f then [] else (head f) ! x : all(tail f, x)",
     (([2], value([8, 14, 3])), ([0], NOUGHT))),
    ("def main(n) = let x = upto(n) in (fn y => y : x : x : []) ! (0 : x)" + UPTO,
     (([2], value([[0, 2, 1], [2, 1], [2, 1]])), ([0], value([[0], [], []])), ([58], value(
         [[0] + list(range(58, 0, -1))] + [list(range(58, 0, -1))] * 2)), ([59], DEEP))),
    # Which binding is meant.
    ("def main(x) = let f = fn y => x + y in let x = 100 in f ! x", (([1], value(101)),)),
    ("def main(x) = (fn x => (fn x => x) ! (x + 1) + x) ! (x + 1)", (([1], value(5)),)),
    ("def main(f) = f(f) def f(main) = let f = main in f + main", (([3], value(6)),)),
    # Just one of two parts is done, and the first refusal counts.
    ("def main(n) = if n < 1 then 1 else 1 / (n - n)", (([0], value(1)), ([1], NOUGHT))),
    ("def main(n) = (n / 0) + head []", (([1], NOUGHT),)),
    ("def main(n) = head [] + (n / 0)", (([1], ("refused", "head")),)),
    ("def main(n) = n * n + 1 / 0", (([GREATEST], GREAT), ([1], NOUGHT))),
    ("def main(n) = f(n / 0, main(n)) def f(x, y) = x", (([1], NOUGHT),)),
    ("def main(n) = let x = tail [] in n", (([1], ("refused", "tail")),)),
    # Without end: a thousand calls side by side, or sixty within one another.
    ("def main(n) = main(n)", (([1], DEEP),)),
    ("def main(n) = f(n) + f(n) def f(n) = if n < 1 then 1 else f(n - 1) + f(n - 1)",
     (([0], value(2)), ([7], value(256)), ([8], DRY), ([58], DRY), ([59], DEEP))),
    ("def main(n) = (fn f => f ! n) ! (fn x => main(x + 1))", (([1], DEEP),)),
)


class AnswersTest(DeepCallsTest):
    def all_tell(self, text, numbers, most, rounds):
        """The answer by all ways, with lists for the rounds."""
        told = plain_answer(text, numbers, most)
        expected = repr(told)
        self.assertEqual(repr(evaluated(read(text), numbers, most)[0]), expected)
        for is_short in (True, False):
            for some in rounds:
                self.assertEqual(repr(answer(text, numbers, most, is_short, some)), expected, msg=(text, numbers, some))
        return told

    def test_by_hand(self):
        for text, answers in ANSWERS:
            for numbers, told in answers:
                rows = min(run_told(text, numbers, 1000, False, [])[1], 500)
                rounds = [[], [0], [rows - 1], list(range(rows)), [rows, rows + 1]]
                self.assertEqual(repr(self.all_tell(text, numbers, 1000, rounds)), repr(told), msg=(text, numbers))

    def test_by_any_most(self):
        for text, answers in ANSWERS:
            for numbers, told in answers:
                words = [self.all_tell(text, numbers, most, [[], [1, 5, 9]]) for most in (0, 1, 2, 3, 5, 8, 30, 61)]
                if told != DRY:
                    # Once it is not dry it stays as it is.
                    self.assertEqual(words, [DRY] * words.count(DRY) + [told] * (len(words) - words.count(DRY)))

    def test_most_just_enough_and_one_too_few(self):
        for text, answers in ANSWERS:
            for numbers, told in answers:
                calls = evaluated(read(text), numbers, 1000)[1]
                self.assertEqual(repr(self.all_tell(text, numbers, calls, [[], [7]])), repr(told))
                if calls > 0:
                    self.assertEqual(self.all_tell(text, numbers, calls - 1, [[], [7]]), DRY)

    def test_each_form(self):
        chance = seeded(2500)
        for text, numbers in TEXTS:
            for some in [numbers] + [[number] * len(numbers) for number in (-2, 0, 1, 3, GREATEST, -GREATEST)]:
                for most in (0, 4, 1000):
                    rounds = [[], list(range(60)), [chance.randrange(200) for many in range(20)]]
                    self.all_tell(text, some, most, rounds)

    def test_programs(self):
        chance = seeded(2501)
        words = []
        while len(words) < 250:
            program = any_kinded_program(chance, 2 + len(words) % 6)
            text = shown(program)
            names = [function for function in program if function[1] == "main"][0][2]
            numbers = [chance.choice((-3, -1, 0, 1, 2, 5, GREATEST, -GREATEST)) for name in names]
            try:
                plain_answer(text, numbers, 0)
            except MillError:
                # Too long, or of kinds that are.
                continue
            rounds = [[], list(range(100)), [chance.randrange(400) for many in range(chance.choice((1, 5, 50)))]]
            told = self.all_tell(text, numbers, chance.choice((1, 20, 300, 1000)), rounds)
            words.append(told[-1] if told[0] == "refused" else told[0])
        for word in ("value", "dry", "deep", "great", "nought", "head", "tail"):
            self.assertGreater(words.count(word), 1, msg=word)


if __name__ == "__main__":
    unittest.main()
