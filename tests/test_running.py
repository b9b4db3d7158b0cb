"""Point 24: which texts and inputs are let by, which refusal is told, and what a run tells."""

import unittest

from examples import TEXTS
from filling import any_kinded_program
from helpers import refuses, seeded
from milling import Mill
from speakmill.checking import kinded
from speakmill.compiling import compiled
from speakmill.errors import BadInput, BadKind, BadName, BadText
from speakmill.numbers import GREATEST
from speakmill.reading import read
from speakmill.running import answer, checked, plain_answer, run_told, told_kind
from speakmill.scopes import placed
from speakmill.shortening import shortened
from speakmill.showing import shown

NO_PROGRAMS = ("", "def", "main", "def main() = ", "def main() = 1 2", "def main( = 1", "def main() = 01", "def main() = $",
               "def main() = " + "head " * 16 + "x", "def main() = " + "(" * 17 + "1" + ")" * 17, " " * 4001,
               "def main() = \"", "def Main() = 1", "def main() = 1 % 2", "def main() = 1 < 2 < 3",
               "def main(a, b, c, d, e) = 1")
NO_NAMES = ("def f() = 1", "def main() = x", "def main() = f()", "def main() = 1 def main() = 2", "def main(x, x) = 1",
            "def main(n) = main()", "def main(n) = main(n, n)", "def main(f) = f(1)", "def main() = let x = x in 1")
NO_KINDS = ("def main() = 1 + yes", "def main() = fn x => x", "def main() = 1 : 2", "def main(n) = not n",
            "def main(n) = if n then 1 else 2", "def main() = (fn x => x ! x) ! 1", "def main() = (fn x => x) : []",
            "def main() = 1 def f(x) = x + f(yes)", "def main() = head 1")
# Wrong in more than one way: the first one that fits is told.
SEVERAL = (
    ("def main() = x + yes $", BadText), ("def main() = 1 + yes 2", BadText), ("def f() = x + yes", BadName),
    ("def main() = f(1 + yes)", BadName), ("def main(x, x) = not 1", BadName), ("def f() = (1 2", BadText),
    ("def main() = not 1 def main() = fn x => x", BadName),
)
REFUSED = ([(text, BadText) for text in NO_PROGRAMS] + [(text, BadName) for text in NO_NAMES]
           + [(text, BadKind) for text in NO_KINDS] + list(SEVERAL))


class Whatever:
    """Of no kind that can be handed in."""


NO_NUMBERS = (True, False, "1", "", None, 1.0, 0.5, [], [1], (1,), {}, b"1", Whatever(), 1j)
NO_LISTS = (None, True, False, 0, 1, "", "12", (), (1, 2), {}, {1: 2}, set(), range(2), Whatever(), b"ab")


class TextsTest(unittest.TestCase):
    def test_checked(self):
        for text, numbers in TEXTS:
            program = read(text)
            told = checked(text)
            self.assertEqual(type(told), tuple)
            self.assertEqual(repr(told), repr((program, placed(program), kinded(placed(program)))))

    def test_checked_by_hand(self):
        self.assertEqual(repr(checked("def f(x) = x def main(n) = f(n < 1)")), repr((
            (("def", "f", ("x",), ("name", "x")),
             ("def", "main", ("n",), ("call", "f", (("two", "<", ("name", "n"), ("number", 1)),)))),
            ([(1, 1, ("slot", 0)), (1, 1, ("call", 0, (("two", "<", ("slot", 0), ("number", 1)),)))], 1),
            [((("truth",),), ("truth",), [("truth",)]),
             ((("number",),), ("truth",), [("truth",), ("truth",), ("number",), ("number",)])])))

    def test_what_is_checked_is_the_askers_own(self):
        text = "def main(n) = if n < 1 then 1 else main(n - 1)"
        kept = repr(checked(text))
        program, placing, kinds = checked(text)
        placing[0].clear()
        kinds[0][2].append(5)
        kinds.append(7)
        self.assertEqual(repr(checked(text)), kept)
        self.assertEqual(answer(text, [3], 10, True, []), ("value", 1))

    def test_told_kind(self):
        for text, kind in (
                ("def main() = 1", "number"), ("def main(a) = a", "number"), ("def main() = yes", "truth"),
                ("def main(a) = a < 1", "truth"), ("def main() = []", "list of number"),
                ("def main() = yes : []", "list of truth"), ("def main() = [] : []", "list of (list of number)"),
                ("def main(a) = ((a = 1) : []) : []", "list of (list of truth)"),
                ("def main() = (([] : []) : []) : []", "list of (list of (list of (list of number)))"),
                ("def main() = main()", "number"), ("def f(x) = x def main() = f(yes) def g() = fn x => x", "truth"),
                ("def main() = if yes then f() else [] def f() = tail f()", "list of number"),
                ("def f() = yes def main() = 1", "number"), ("def main() = 1 def f() = yes", "number"),
                ("def main(n) = (fn x => x : []) ! (n < n)", "list of truth")):
            self.assertEqual(told_kind(text), kind)

    def test_refused(self):
        for text, refusal in REFUSED:
            refuses(self, checked, text, refusal=refusal)
            refuses(self, told_kind, text, refusal=refusal)
            refuses(self, answer, text, [], 0, False, [], refusal=refusal)
            refuses(self, run_told, text, [], 0, True, [], refusal=refusal)
            refuses(self, plain_answer, text, [], 0, refusal=refusal)

    def test_refused_with_inputs_that_are_none(self):
        for text, refusal in REFUSED:
            for numbers in ([], [1], [True], None, "1"):
                for most in (0, -1, 1001, True, "5"):
                    refuses(self, plain_answer, text, numbers, most, refusal=refusal)
                    for is_short, rounds in ((True, []), (1, []), (False, [-1]), ("", None), (None, [True])):
                        refuses(self, answer, text, numbers, most, is_short, rounds, refusal=refusal)
                        refuses(self, run_told, text, numbers, most, is_short, rounds, refusal=refusal)

    def test_what_is_never_called_is_checked_as_well(self):
        refuses(self, answer, "def main() = 1 def f() = x", [], 0, False, [], refusal=BadName)
        refuses(self, answer, "def main() = if yes then 1 else not 1", [], 0, False, [], refusal=BadKind)
        refuses(self, plain_answer, "def main() = if yes then 1 else not 1", [], 0, refusal=BadKind)


class InputsTest(unittest.TestCase):
    text = "def main(a, b) = if a < b then a : b : [] else b : []"

    def takes(self, numbers, most=5, is_short=True, rounds=(), text=None):
        """Tells the answer, which is the same by all three."""
        text, rounds = text or self.text, list(rounds)
        kept = repr((numbers, rounds))
        told = plain_answer(text, numbers, most)
        self.assertEqual(repr(answer(text, numbers, most, is_short, rounds)), repr(told))
        self.assertEqual(repr(run_told(text, numbers, most, is_short, rounds)[0]), repr(told))
        self.assertEqual(repr((numbers, rounds)), kept)
        return told

    def refused(self, numbers, most=5):
        """Numbers, or a most, that all three refuse."""
        for is_short in (True, False):
            refuses(self, answer, self.text, numbers, most, is_short, [], refusal=BadInput)
            refuses(self, run_told, self.text, numbers, most, is_short, [], refusal=BadInput)
        refuses(self, plain_answer, self.text, numbers, most, refusal=BadInput)

    def refused_way(self, is_short, rounds):
        refuses(self, answer, self.text, [1, 2], 5, is_short, rounds, refusal=BadInput)
        refuses(self, run_told, self.text, [1, 2], 5, is_short, rounds, refusal=BadInput)

    def test_numbers(self):
        self.assertEqual(self.takes([1, 2]), ("value", [1, 2]))
        self.assertEqual(self.takes([2, 1]), ("value", [1]))
        self.assertEqual(self.takes([-5, 0]), ("value", [-5, 0]))
        self.assertEqual(self.takes([-GREATEST, GREATEST]), ("value", [-GREATEST, GREATEST]))
        self.assertEqual(self.takes([], text="def main() = 1"), ("value", 1))
        self.assertEqual(self.takes([1, 2, 3, 4], text="def main(a, b, c, d) = d"), ("value", 4))

    def test_too_few_and_too_many(self):
        for numbers in ([], [1], [1, 2, 3], [0] * 5):
            self.refused(numbers)
        for many in range(5):
            names = ", ".join("abcd"[:many])
            text = f"def f(x) = x def main({names}) = 1 def g(x, y, z) = 2"
            for other in range(6):
                if other == many:
                    self.assertEqual(answer(text, [1] * other, 0, False, []), ("value", 1))
                else:
                    refuses(self, answer, text, [1] * other, 0, False, [], refusal=BadInput)
                    refuses(self, plain_answer, text, [1] * other, 0, refusal=BadInput)

    def test_what_is_no_number(self):
        for one in NO_NUMBERS:
            self.refused([one, 1])
            self.refused([1, one])

    def test_beyond_greatest(self):
        for one in (GREATEST + 1, -GREATEST - 1, GREATEST * 10, 10 ** 5000, -10 ** 5000):
            self.refused([one, 1])
            self.refused([1, one])

    def test_what_is_no_list(self):
        for one in NO_LISTS:
            self.refused(one)
        refuses(self, plain_answer, "def main() = 1", (), 5, refusal=BadInput)
        refuses(self, answer, "def main() = 1", "", 5, True, [], refusal=BadInput)
        refuses(self, answer, "def main() = 1", {}, 5, True, [], refusal=BadInput)

    def test_most(self):
        for most in (0, 1, 999, 1000):
            self.takes([1, 2], most)
        for most in (-1, 1001, -1000, 10 ** 50) + NO_NUMBERS:
            self.refused([1, 2], most)

    def test_most_as_it_counts(self):
        text = "def main(n) = if n < 1 then 0 else f(n) + f(n) def f(n) = if n < 1 then 0 else f(n - 1)"
        # f(n) is one call, and n more in it.
        for n, calls in ((0, 0), (1, 4), (9, 20)):
            for most in (calls, calls + 1, 1000):
                self.assertEqual(self.takes([n], most, text=text), ("value", 0))
            if calls:
                self.assertEqual(self.takes([n], calls - 1, text=text), ("dry",))

    def test_a_thousand_calls(self):
        text = "def main(n) = f(n, 9) def f(n, k) = if k < 1 then n else f(f(n, k - 1), k - 1)"
        self.assertEqual(self.takes([3], 1000, text=text), ("dry",))
        # As many as 2 ** 9, twice but one.
        self.assertEqual(self.takes([3], 1000, text=text.replace("9)", "8)")), ("value", 3))
        self.assertEqual(self.takes([3], 511, text=text.replace("9)", "8)")), ("value", 3))
        self.assertEqual(self.takes([3], 510, text=text.replace("9)", "8)")), ("dry",))

    def test_the_truth(self):
        for one in (0, 1, "", "yes", None, [], [True], 1.0, (), Whatever()):
            self.refused_way(one, [])
            self.refused_way(one, [1])

    def test_rounds(self):
        for rounds in ([], [0], [0, 0], [5, 1], [1000], [10 ** 60], list(range(50))):
            self.takes([1, 2], rounds=rounds)
            self.takes([1, 2], is_short=False, rounds=rounds)
        for is_short in (True, False):
            for one in (-1, -10 ** 50) + NO_NUMBERS:
                self.refused_way(is_short, [one])
                self.refused_way(is_short, [0, one])
                self.refused_way(is_short, [one, 10 ** 9])
            for one in NO_LISTS:
                self.refused_way(is_short, one)

    def test_rounds_are_refused_also_where_no_row_comes_to_them(self):
        refuses(self, answer, "def main() = 1 / 0", [], 0, True, [100, -5], refusal=BadInput)

    def test_plain_answer_takes_three(self):
        with self.assertRaises(TypeError):
            plain_answer("def main() = 1", [], 0, True, [])

    def test_the_names_of_what_is_handed_in(self):
        self.assertEqual(answer(text="def main(n) = n", numbers=[1], most=0, is_short=True, rounds=[]), ("value", 1))
        self.assertEqual(run_told(text="def main(n) = n", numbers=[1], most=0, is_short=True, rounds=[]),
                         (("value", 1), 2, 0))
        self.assertEqual(plain_answer(text="def main(n) = n", numbers=[1], most=0), ("value", 1))
        self.assertEqual(told_kind(text="def main(n) = n"), "number")
        self.assertEqual(len(checked(text="def main(n) = n")), 3)

    def test_what_is_handed_in_stays(self):
        numbers, rounds = [3, 4], [2, 1, 1]
        for is_short in (True, False):
            told = run_told(self.text, numbers, 5, is_short, rounds)
            told[0][1].append(7)
            answer(self.text, numbers, 5, is_short, rounds)
            plain_answer(self.text, numbers, 5)
            self.assertEqual((numbers, rounds), ([3, 4], [2, 1, 1]))
            self.assertEqual(answer(self.text, numbers, 5, is_short, rounds), ("value", [3, 4]))

    def test_the_answer_is_the_askers_own(self):
        text = "def main(n) = let x = n : [] in x : x : []"
        for many in range(2):
            for told in (answer(text, [4], 0, True, []), answer(text, [4], 0, False, [3]), plain_answer(text, [4], 0)):
                self.assertEqual(told, ("value", [[4], [4]]))
                told[1][0].append(5)
                self.assertEqual(told, ("value", [[4, 5], [4]]))
                told[1].append(6)


class RunToldTest(unittest.TestCase):
    def tells(self, text, numbers, is_short, rounds, expected, most=1000):
        for many in range(2):
            told = run_told(text, numbers, most, is_short, rounds)
            self.assertEqual(repr(told), repr(expected), msg=rounds)
            self.assertEqual((type(told[1]), type(told[2])), (int, int))
        self.assertEqual(repr(answer(text, numbers, most, is_short, rounds)), repr(expected[0]))

    # By hand: load 0, none, cons, keep 1, load 1, head, push 1, add, back.
    def test_one_cell(self):
        text = "def main(n) = let x = n : [] in head x + 1"
        value = ("value", 5)
        for rounds in ([], [0], [8], [9], list(range(20)), [5, 5]):
            # The slot leads to the cell up to the end.
            self.tells(text, [4], False, rounds, (value, 9, 1))
        # Shortened: load 0, none, cons, head, push 1, add, back.
        for rounds, cells in (([], 1), ([0], 1), ([3], 1), ([4], 0), ([6], 0), ([7], 1), ([7, 8, 100], 1), ([3, 7], 1),
                              ([6, 3, 6, 7], 0), (list(range(20)), 0), ([10 ** 30], 1)):
            self.tells(text, [4], True, rounds, (value, 7, cells))

    # By hand: push 1, none, cons, head, push 2, none, cons, tail, cons, tail, back.
    def test_ahead_of_which_row(self):
        text = "def main() = tail (head (1 : []) : tail (2 : []))"
        for rounds, cells in (([], 3), ([0], 3), ([3], 3), ([4], 2), ([7], 2), ([8], 1), ([9], 1), ([10], 0), ([11], 3),
                              ([4, 10], 0), ([4, 8], 1), ([8, 4], 1), ([4, 4, 4], 2), ([10, 11], 0), ([11, 12], 3),
                              (list(range(11)), 0), (list(range(11))[::-1], 0), (list(range(8)), 2), (list(range(50)), 0)):
            for is_short in (True, False):
                self.tells(text, [], is_short, rounds, (("value", []), 11, cells))

    def test_without_cells(self):
        self.tells("def main() = 1 + 2", [], False, [], (("value", 3), 4, 0))
        self.tells("def main() = 1 + 2", [], True, [], (("value", 3), 2, 0))
        self.tells("def main() = []", [], True, [0, 1, 2], (("value", []), 2, 0))

    def test_calls(self):
        # load 0, push 1, less, unless, push 0 or the five of the call, skip or none, back.
        text = "def main(n) = if n < 1 then 0 else main(n - 1)"
        self.tells(text, [0], False, [], (("value", 0), 7, 0))
        self.tells(text, [3], False, [], (("value", 0), 34, 0))
        self.tells(text, [0], True, [], (("value", 0), 6, 0))
        self.tells(text, [3], True, [], (("value", 0), 33, 0))
        self.tells(text, [3], True, [], (("dry",), 24, 0), most=2)
        self.tells(text, [3], False, [], (("dry",), 24, 0), most=2)
        self.tells(text, [100], True, [], (("deep",), 480, 0))
        self.tells(text, [59], True, [], (("value", 0), 537, 0))

    def test_the_row_by_which_all_is_over_is_done(self):
        for text, answer_told, rows in (("def main(n) = 1 / n", ("refused", "nought"), 3),
                                        ("def main(n) = 5 + head []", ("refused", "head"), 3),
                                        ("def main(n) = tail (tail [])", ("refused", "tail"), 2),
                                        ("def main(n) = main(n)", ("dry",), 2)):
            for is_short in (True, False):
                self.tells(text, [0], is_short, [], (answer_told, rows, 0), most=0)

    # Nothing is collected behind the row by which all is over.
    def test_cells_behind_a_refusal(self):
        text = "def main(n) = let x = n : [] in (1 : 2 : []) : (n / 0 : x) : []"
        for rounds in ([], [12], [13], list(range(30))):
            self.tells(text, [4], False, rounds, (("refused", "nought"), 12, 3))
        self.tells("def main(n) = head (1 : []) + head []", [4], False, [], (("refused", "head"), 6, 1))
        self.tells("def main(n) = head (1 : []) + head []", [4], False, [4], (("refused", "head"), 6, 0))
        self.tells("def main(n) = head (1 : []) + head []", [4], False, [6], (("refused", "head"), 6, 1))

    def test_a_long_list(self):
        more = "n : " * 12
        text = (f"def main(n) = g(n, 20, []) def g(n, k, x) = if k < 1 then x else g(n, k - 1, f(n, 20, x)) "
                f"def f(n, k, x) = if k < 1 then x else f(n, k - 1, {more}x)")
        value = ("value", [5] * 4800)
        self.assertEqual(plain_answer(text, [5], 1000), value)
        for is_short in (True, False):
            for rounds in ([], [0, 100, 9000]):
                told = run_told(text, [5], 1000, is_short, rounds)
                self.assertEqual((told[0], told[2]), (value, 4800))

    def test_against_another_machine(self):
        """Ahead of each row of the rounds the second machine clears away what nothing leads to."""
        chance = seeded(2401)
        cases = [(text, numbers) for text, numbers in TEXTS]
        while len(cases) < 80:
            program = any_kinded_program(chance, 2 + len(cases) % 4)
            names = [function for function in program if function[1] == "main"][0][2]
            if len(shown(program)) < 2000:
                cases.append((shown(program), [chance.choice((-3, 0, 1, 2, GREATEST)) for name in names]))
        for text, numbers in cases:
            for is_short in (True, False):
                self.holds_to_mill(chance, text, numbers, chance.choice((0, 3, 40, 200)), is_short)

    def holds_to_mill(self, chance, text, numbers, most, is_short):
        blocks, main = compiled(placed(read(text)))
        blocks = shortened(blocks) if is_short else blocks
        rows = run_told(text, numbers, most, is_short, [])[1]
        for rounds in ([], [0], [rows - 1], [rows], [rows + 1, rows], list(range(min(rows, 300))),
                       [chance.randrange(rows + 2) for many in range(5)] * 2):
            mill = Mill(blocks, main, numbers, most)
            is_going = True
            while is_going:
                if mill.rows in rounds and mill.outcome is None:
                    mill.collect()
                is_going = mill.step()
            self.tells(text, numbers, is_short, rounds, (mill.answer(), mill.rows, len(mill.kept)), most)


if __name__ == "__main__":
    unittest.main()
