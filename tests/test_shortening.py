"""Point 23: what shortened blocks keep, and what there is in none of them."""

import unittest

from examples import TEXTS
from filling import any_kinded_program
from helpers import compiled_text, seeded
from milling import Mill
from speakmill.checking import kinded
from speakmill.compiling import compiled
from speakmill.errors import BadKind
from speakmill.machine import Machine
from speakmill.numbers import GREATEST
from speakmill.reading import read
from speakmill.scopes import placed
from speakmill.shortening import shortened
from tracing import any_rows, faults, push, skip, traced, unless

BACK, NOT, ADD = ("back",), ("not",), ("add",)
LOAD = ("load", 0)
ONE = ("number", 1)


def finished(machine):
    while machine.step():
        pass
    return machine


class ShortenedTest(unittest.TestCase):
    def shortened(self, blocks):
        """Asks for all that can be seen of blocks alone."""
        kept = repr(blocks)
        told = shortened(blocks)
        self.assertEqual(repr(blocks), kept)
        self.assertEqual(type(told), list)
        self.assertEqual([block[:2] for block in told], [block[:2] for block in blocks])
        for (count, size, rows), (old_count, old_size, old_rows) in zip(told, blocks):
            self.assertEqual((type(count), type(size), type(rows)), (int, int, tuple))
            self.assertEqual(rows[-1], BACK)
            self.assertLessEqual(len(rows), len(old_rows))
            self.assertEqual(faults(rows), [], msg=old_rows)
        self.assertEqual(repr(shortened(told)), repr(told))
        again = shortened(blocks)
        self.assertEqual(repr(again), repr(told))
        again.clear()
        self.assertEqual(repr(blocks), kept)
        return told

    def does_the_same(self, blocks, told, main, numbers, most):
        """Tells the answer and how many calls there were."""
        long, short = finished(Machine(blocks, main, numbers, most)), finished(Machine(told, main, numbers, most))
        self.assertEqual(repr(short.answer()), repr(long.answer()), msg=(blocks, numbers, most))
        self.assertEqual(short.calls(), long.calls())
        self.assertLessEqual(short.rows_done(), long.rows_done())
        return long.answer(), long.calls()

    def holds(self, blocks, main, numbers):
        """By most without end, just enough, one too few and some others; tells the answers."""
        told = self.shortened(blocks)
        answer, calls = self.does_the_same(blocks, told, main, numbers, 1000)
        answers = [answer]
        for most in sorted({0, 1, calls // 2, max(calls - 1, 0), calls, calls + 1} - {1001}):
            answers.append(self.does_the_same(blocks, told, main, numbers, most)[0])
            if most == calls:
                self.assertEqual(repr(answers[-1]), repr(answer))
            elif most < calls:
                self.assertEqual(answers[-1], ("dry",))
        return answers

    def becomes(self, text, *expected):
        """The rows of one block after the other; the numbers are tried besides."""
        blocks, main = compiled_text(text)
        told = self.shortened(blocks)
        self.assertEqual(repr([rows for count, size, rows in told]), repr(list(expected)))
        for number in (-1, 0, 1, 2, GREATEST):
            self.holds(blocks, main, [number] * blocks[main][0])

    def stays(self, text):
        self.becomes(text, *[rows for count, size, rows in compiled_text(text)[0]])


class AloneTest(ShortenedTest):
    def test_nothing_to_be_shortened(self):
        for term in ("1", "yes", "[]", "n", "n + 1", "n : 1 : []", "(fn x => x + n) ! 1", "main(n)",
                     "let x = n in x + x", "head tail (n : [])", "empty (n : [])", "1 + n + 2", "1 + (n + 2)"):
            self.stays("def main(n) = " + term)

    def test_rows_that_are_not_reached(self):
        blocks = [(0, 0, (push(1), BACK, push(2), BACK)), (1, 2, (LOAD, BACK, unless(1), skip(0), BACK))]
        self.assertEqual(self.shortened(blocks), [(0, 0, (push(1), BACK)), (1, 2, (LOAD, BACK))])

    def test_skips_of_0(self):
        blocks = [(1, 1, (LOAD, skip(0), skip(0), NOT, BACK))]
        self.assertEqual(self.shortened(blocks), [(1, 1, (LOAD, NOT, BACK))])

    def test_numbers(self):
        for term, value in (("1 + 2", 3), ("1 - 2", -1), ("3 * 4", 12), ("7 / 2", 3), ("(0 - 7) / 2", -4), ("1 < 2", True),
                            ("1 = 2", False), ("7 / (0 - 2)", -4), ("1 / 1", 1), ("0 / 5", 0)):
            self.becomes("def main() = " + term, (push(value), BACK))
            self.becomes(f"def main(n) = n : let x = {term} in []",
                         (LOAD, push(value), ("keep", 1), ("none",), ("cons",), BACK))

    def test_numbers_that_would_be_refused(self):
        self.stays("def main() = 1 / 0")
        self.becomes("def main() = (1 + 2) / (3 - 3)", (push(3), push(0), ("div",), BACK))
        # 999,999,999,999 to the third is just below GREATEST, and ten thousand of these are below it, too.
        third = "999999999999 * 999999999999 * 999999999999"
        number = 999999999999 ** 3
        self.becomes(f"def main() = {third} * 10000", (push(number * 10000), BACK))
        self.becomes(f"def main() = {third} * 10001", (push(number), push(10001), ("mul",), BACK))
        self.becomes(f"def main() = {third} * (0 - 10001)", (push(number), push(-10001), ("mul",), BACK))

    def test_numbers_up_to_greatest(self):
        half = "100000000000 * 1000000000"
        self.becomes(f"def main() = ({half}) * ({half})", (push(GREATEST), BACK))
        self.becomes(f"def main() = ({half}) * ({half}) + 1", (push(GREATEST), push(1), ADD, BACK))
        self.becomes(f"def main() = ({half}) * ({half}) + 1 - 1",
                     (push(GREATEST), push(1), ADD, push(1), ("sub",), BACK))
        self.becomes(f"def main() = 0 - ({half}) * ({half})", (push(-GREATEST), BACK))
        self.becomes(f"def main() = (0 - ({half}) * ({half})) - 1", (push(-GREATEST), push(1), ("sub",), BACK))

    def test_pushes_of_any_size(self):
        for a, word, b, value in ((GREATEST, "add", 1, None), (GREATEST + 1, "sub", 1, GREATEST),
                                  (-GREATEST, "sub", 1, None), (GREATEST * 9, "div", 3, GREATEST * 3),
                                  (GREATEST + 1, "div", 0, None), (GREATEST + 1, "same", GREATEST, False)):
            rows = (push(a), push(b), (word,), BACK)
            self.assertEqual(repr(self.shortened([(0, 0, rows)])),
                             repr([(0, 0, rows if value is None else (push(value), BACK))]))

    def test_not_of_a_truth(self):
        self.becomes("def main() = not yes", (push(False), BACK))
        self.becomes("def main() = not not no", (push(False), BACK))

    def test_if_of_a_truth(self):
        self.becomes("def main(n) = if yes then n else 1 / 0", (LOAD, BACK))
        self.becomes("def main(n) = if no then 1 / 0 else n", (LOAD, BACK))
        self.becomes("def main(n) = 1 + if no then 2 else n", (push(1), LOAD, ADD, BACK))

    def test_a_skip_to_a_back(self):
        self.becomes("def main(n) = if n < 1 then 2 else 3",
                     (LOAD, push(1), ("less",), unless(2), push(2), BACK, push(3), BACK))

    def test_a_skip_to_a_skip(self):
        self.becomes("def main(n) = 1 + if n < 1 then if n < 2 then 2 else n else 3",
                     (push(1), LOAD, push(1), ("less",), unless(8), LOAD, push(2), ("less",), unless(2), push(2), skip(3),
                      LOAD, skip(1), push(3), ADD, BACK))

    def test_an_unless_to_a_skip(self):
        rows = (LOAD, LOAD, unless(2), NOT, BACK, skip(1), push(3), ADD, BACK)
        self.assertEqual(self.shortened([(1, 1, rows)]), [(1, 1, (LOAD, LOAD, unless(2), NOT, BACK, ADD, BACK))])

    def test_a_keep_and_its_load(self):
        self.becomes("def main(n) = let x = n in x", (LOAD, BACK))
        self.becomes("def main(n) = let x = n in x * n", (LOAD, LOAD, ("mul",), BACK))
        self.becomes("def main(n) = (fn x => let y = x in y + n) ! 1", (LOAD, ("close", 1, 1), push(1), ("apply",), BACK),
                     (("load", 1), LOAD, ADD, BACK))

    def test_a_keep_and_two_loads(self):
        self.stays("def main(n) = let x = n in x + x")
        self.stays("def main(n) = let x = n in n * x")
        # The a of the outer let has the outer one's slot, too.
        self.stays("def main(n) = let x = let y = n in y in x")
        self.becomes("def main(n) = (let x = n in x) + let x = 1 in let y = 2 in x",
                     (LOAD, ("keep", 1), ("load", 1), push(1), ("keep", 1), push(2), ("keep", 2), ("load", 1), ADD, BACK))


class JumpTest(ShortenedTest):
    """Where a jump leads to the second row, or the third one, all stays."""

    def test_to_the_second_push(self):
        self.becomes("def main(n) = (if n < 1 then 5 else 6) + 2",
                     (LOAD, push(1), ("less",), unless(2), push(5), skip(1), push(6), push(2), ADD, BACK))

    def test_to_the_third_row(self):
        self.becomes("def main(n) = 1 + (if n < 1 then 5 else 6)",
                     (push(1), LOAD, push(1), ("less",), unless(2), push(5), skip(1), push(6), ADD, BACK))

    def test_to_not_and_unless(self):
        self.becomes("def main(n) = not (if n < 1 then yes else no)",
                     (LOAD, push(1), ("less",), unless(2), push(True), skip(1), push(False), NOT, BACK))
        self.becomes("def main(n) = if (if n < 1 then yes else no) then 1 else 2",
                     (LOAD, push(1), ("less",), unless(2), push(True), skip(1), push(False), unless(2), push(1), BACK,
                      push(2), BACK))

    def test_to_the_load(self):
        rows = (LOAD, LOAD, unless(1), ("keep", 1), ("load", 1), BACK)
        self.assertEqual(self.shortened([(1, 2, rows)]), [(1, 2, rows)])

    def test_to_the_first_row(self):
        self.becomes("def main(n) = if n < 1 then 3 else 1 + 2",
                     (LOAD, push(1), ("less",), unless(2), push(3), BACK, push(3), BACK))
        self.becomes("def main(n) = if n < 1 then no else not yes",
                     (LOAD, push(1), ("less",), unless(2), push(False), BACK, push(False), BACK))
        self.becomes("def main(n) = n + let x = if n < 1 then n else 7 in x",
                     (LOAD, LOAD, push(1), ("less",), unless(2), LOAD, skip(1), push(7), ADD, BACK))


class OneByAnotherTest(ShortenedTest):
    """What there is only when something else is taken away."""

    def test_numbers_by_numbers(self):
        self.becomes("def main() = 1 + 2 * 3 - 4", (push(3), BACK))
        self.becomes("def main() = not (1 + 1 < 2)", (push(True), BACK))

    def test_numbers_by_a_truth(self):
        self.becomes("def main() = 1 + if yes then 2 else 3", (push(3), BACK))
        self.becomes("def main() = (if no then 2 else 3) * 4", (push(12), BACK))
        self.becomes("def main() = if 1 < 2 then 1 + 2 else 1 / 0", (push(3), BACK))

    def test_numbers_by_a_keep(self):
        self.becomes("def main() = let x = 1 in x + 2", (push(3), BACK))
        self.becomes("def main() = 4 - let x = 1 + 2 in x", (push(1), BACK))

    def test_a_keep_by_a_truth(self):
        self.becomes("def main(n) = let x = n in if yes then x else x + x + x",
                     (LOAD, BACK))
        self.becomes("def main(n) = let x = n in x + if yes then 1 else x", (LOAD, push(1), ADD, BACK))

    def test_a_keep_by_a_keep(self):
        self.becomes("def main(n) = let x = n in let y = x in let z = y in z", (LOAD, BACK))

    def test_truths_one_within_the_other(self):
        self.becomes("def main(n) = if (if (if yes then no else yes) then yes else not no) then n else 1", (LOAD, BACK))
        self.becomes("def main(n) = if yes then if no then 1 else if yes then n else 2 else 3", (LOAD, BACK))
        self.becomes("def main(n) = let x = if yes then 1 < 2 else no in if x then n else 3", (LOAD, BACK))

    def test_a_jump_is_gone_and_numbers_come_together(self):
        self.becomes("def main(n) = n + (if yes then 5 else n) * 2", (LOAD, push(10), ADD, BACK))
        self.becomes("def main(n) = n + 2 * if n < 1 then (if no then n else 5) + 1 else 7",
                     (LOAD, push(2), LOAD, push(1), ("less",), unless(2), push(6), skip(1), push(7), ("mul",), ADD, BACK))

    def test_deep_down(self):
        text = "yes"
        for many in range(11):
            text = f"if {text} then yes else no" if many % 3 else f"if not ({text}) then no else yes"
        self.becomes(f"def main() = {text}", (push(True), BACK))

    # More than is let by: nothing goes by calls that are as deep as this.
    def test_far_deeper(self):
        many = 3000
        rows = (push(0),) + (push(1), ADD) * many + (push(many), ("same",)) + (NOT,) * (2 * many) + (BACK,)
        self.assertEqual(repr(self.shortened([(0, 0, rows)])), repr([(0, 0, (push(True), BACK))]))
        nested = (push(True),)
        for one in range(60):
            nested += (unless(2), push(True), skip(1), push(False))
        self.assertEqual(repr(self.shortened([(0, 0, nested + (BACK,))])), repr([(0, 0, (push(True), BACK))]))


class BlocksTest(ShortenedTest):
    def test_each_block_is_shortened(self):
        self.becomes("def f(x) = x * (1 + 1) def main(n) = f(2 * 3) : f((fn x => x + (3 - 1)) ! n) : [] def g() = not no",
                     (LOAD, push(2), ("mul",), BACK),
                     (push(6), ("call", 0, 1), ("close", 3, 0), LOAD, ("apply",), ("call", 0, 1), ("none",), ("cons",),
                      ("cons",), BACK),
                     (push(True), BACK),
                     (LOAD, push(2), ADD, BACK))

    # A block stays, with its number, also if nothing calls it any more; so does a slot that nothing keeps.
    def test_numbers_counts_and_sizes(self):
        blocks, main = compiled_text("def f(a, b) = 1 def main(n) = let x = 1 in if yes then x else (fn y => n) ! f(1, 2)")
        self.assertEqual(self.shortened(blocks), [(2, 2, (push(1), BACK)), (1, 2, (push(1), BACK)), (2, 2, (LOAD, BACK))])

    def test_no_blocks(self):
        self.assertEqual(self.shortened([]), [])

    def test_what_is_told_is_the_askers_own(self):
        blocks = compiled_text("def main() = 1 + 2")[0]
        told = shortened(blocks)
        told.append((0, 0, (BACK,)))
        self.assertEqual(shortened(blocks), [(0, 0, (push(3), BACK))])
        kept = shortened(blocks)
        blocks[0] = (0, 0, (push(7), BACK))
        self.assertEqual(kept, [(0, 0, (push(3), BACK))])


class AnswersTest(ShortenedTest):
    def test_every_form(self):
        for text, numbers in TEXTS:
            blocks, main = compiled_text(text)
            self.holds(blocks, main, numbers)
            for number in (-5, -1, 0, 1, 2, 30, GREATEST, -GREATEST):
                self.holds(blocks, main, [number] * len(numbers))

    def test_fewer_rows_are_done(self):
        for text, long, short in (("def main() = 1 + 2", 4, 2), ("def main() = if yes then 1 else 2", 5, 2),
                                  ("def main() = let x = 1 in x", 4, 2), ("def main() = not not no", 4, 2)):
            blocks, main = compiled_text(text)
            self.assertEqual(finished(Machine(blocks, main, [], 0)).rows_done(), long)
            self.assertEqual(finished(Machine(shortened(blocks), main, [], 0)).rows_done(), short)

    def test_programs(self):
        chance = seeded(2301)
        words = []
        for many in range(700):
            program = any_kinded_program(chance, 2 + many % 6)
            blocks, main = compiled(placed(program))
            numbers = [chance.choice((-3, -1, 0, 1, 2, 5, GREATEST, -GREATEST)) for one in range(blocks[main][0])]
            for answer in self.holds(blocks, main, numbers):
                words.append(answer[-1] if answer[0] == "refused" else answer[0])
        for word in ("value", "dry", "deep", "great", "nought", "head", "tail"):
            self.assertGreater(words.count(word), 1, msg=word)

    # The second machine does the shortened rows as well.
    def test_by_another_machine(self):
        chance = seeded(2302)
        for many in range(200):
            program = any_kinded_program(chance, 2 + many % 5)
            blocks, main = compiled(placed(program))
            numbers = [chance.choice((-3, 0, 1, 2, GREATEST)) for one in range(blocks[main][0])]
            long, short = Mill(blocks, main, numbers, 100), Mill(shortened(blocks), main, numbers, 100)
            finished(long)
            finished(short)
            self.assertEqual((repr(short.answer()), short.calls), (repr(long.answer()), long.calls))
            self.assertLessEqual(short.rows, long.rows)

    def test_rows_by_chance(self):
        chance = seeded(2303)
        for many in range(1500):
            rows = any_rows(chance, 4 + many % 25)
            told = self.shortened([(0, 6, rows)])[0][2]
            for finds in ((True,) * 9, (False,) * 9, (True, False) * 5, (False, True, True) * 3, (True, False, False) * 3):
                self.assertEqual(traced(told, finds)[0], traced(rows, finds)[0], msg=rows)
                self.assertLessEqual(traced(told, finds)[1], traced(rows, finds)[1], msg=rows)


WRONG = (
    "yes + 1", "1 + yes", "yes < no", "not 1", "not []", "if 1 then 2 else 3", "head 1", "tail yes", "empty 5", "1 : 2",
    "1 ! 2", "yes = yes", "not (1 + 2)", "if 1 + 2 then not 3 else yes - no", "(fn x => x ! x) ! 1", "let x = yes in x + 1",
    "let x = 1 in not x", "if let x = 0 in x then 1 else 2", "(1 < 2) + (3 < 4)", "(1 < 2) * 3", "not yes + 1",
    "if not yes then yes + 1 else not 0",
)


class WrongKindsTest(ShortenedTest):
    """What kinds alone refuse, where nothing of that is done."""

    def test_each_one(self):
        for wrong in WRONG:
            for text in (f"if n < 5 then n else {wrong}", f"if n < 5 then 1 + 1 else 2 + ({wrong})",
                         f"if not (n < 5) then {wrong} else n", f"if yes then n else {wrong}",
                         f"if no then {wrong} else n", f"let x = fn y => {wrong} in n", f"n + if n = n then 2 else {wrong}"):
                program = read("def main(n) = " + text)
                with self.assertRaises(BadKind):
                    kinded(placed(program))
                blocks, main = compiled(placed(program))
                for number in (-1, 0, 4):
                    self.assertEqual(self.holds(blocks, main, [number])[0][0], "value")

    def test_programs(self):
        chance = seeded(2304)
        refused = 0
        for many in range(300):
            program = tuple(function[:3] + (spoilt(chance, function[3]),)
                            for function in any_kinded_program(chance, 2 + many % 4))
            blocks, main = compiled(placed(program))
            try:
                kinded(placed(program))
            except BadKind:
                refused += 1
            self.holds(blocks, main, [chance.choice((-1, 0, 2)) for one in range(blocks[main][0])])
        self.assertGreater(refused, 200)


def spoilt(chance, term):
    """The term with others in it that are never done, whose kinds may be any."""
    form = term[0]
    first = {"two": 2, "one": 2, "if": 1, "let": 2, "fn": 2, "do": 1}.get(form, len(term))
    told = term[:first] + tuple(spoilt(chance, part) for part in term[first:])
    if form == "call":
        told = ("call", term[1], tuple(spoilt(chance, part) for part in term[2]))
    if chance.random() < 0.6:
        return told
    yes = chance.choice((("truth", True), ("two", "<", ONE, ("number", 2)), ("one", "not", ("truth", False)),
                         ("one", "empty", ("none",)), ("two", "=", ONE, ONE)))
    wrong = read("def main() = " + chance.choice(WRONG))[0][3]
    return ("if", yes, told, wrong) if chance.random() < 0.5 else ("if", ("one", "not", yes), wrong, told)


if __name__ == "__main__":
    unittest.main()
