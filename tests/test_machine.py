"""Points 13 to 15, 19 and 20: the machine."""

import unittest

from filling import any_kinded_program
from helpers import cell, compiled_text, seeded
from milling import Mill
from speakmill.compiling import compiled
from speakmill.machine import Machine
from speakmill.numbers import GREATEST
from speakmill.reading import read
from speakmill.reckoning import reckoned
from speakmill.scopes import placed

BACK, ADD, CONS, APPLY, NONE = ("back",), ("add",), ("cons",), ("apply",), ("none",)
PUSH1 = ("push", 1)
DRY, DEEP = ("dry",), ("deep",)


def finished(machine):
    """Does all rows that are left; tells how many."""
    many = 0
    while machine.step():
        many += 1
    return many


class MachineTest(unittest.TestCase):
    def machine(self, *rows, size=0, numbers=(), most=1000, others=()):
        """A machine whose main has these rows; other blocks stand behind it."""
        return Machine([(len(numbers), size, rows)] + list(others), 0, list(numbers), most)

    def stands(self, machine, frames, cells=(), rows=None, calls=0):
        """Asks for everything while it is not over, and changes what is told."""
        for many in range(2):
            told_frames, told_cells = machine.frames(), machine.cells()
            self.assertEqual(repr(told_frames), repr(list(frames)))
            self.assertEqual(repr(told_cells), repr(list(cells)))
            self.assertEqual((type(told_frames), type(told_cells)), (list, list))
            self.assertIsNone(machine.answer())
            self.assertEqual(machine.calls(), calls)
            if rows is not None:
                self.assertEqual(machine.rows_done(), rows)
            told_frames.clear()
            told_cells.append(("pair", 8, 8))

    def over(self, machine, answer, rows, calls=0, cells=()):
        """Asks for everything when it is over; step does nothing more."""
        for many in range(3):
            self.assertEqual(repr(machine.answer()), repr(answer))
            told_frames, told_cells = machine.frames(), machine.cells()
            self.assertEqual((told_frames, told_cells), ([], list(cells)))
            self.assertEqual((type(told_frames), type(told_cells)), (list, list))
            self.assertEqual((machine.rows_done(), machine.calls()), (rows, calls))
            self.assertEqual((type(machine.rows_done()), type(machine.calls())), (int, int))
            self.assertIs(machine.step(), False)
            told_frames.append((0, 0, (), ()))
            told_cells.append(("pair", 8, 8))


class BeginTest(MachineTest):
    def test_the_first_frame(self):
        self.stands(self.machine(PUSH1, BACK), [(0, 0, (), ())], rows=0)
        self.stands(self.machine(PUSH1, BACK, size=3), [(0, 0, (None,) * 3, ())], rows=0)
        self.stands(self.machine(PUSH1, BACK, size=3, numbers=[5, -6]), [(0, 0, (5, -6, None), ())], rows=0)
        self.stands(self.machine(PUSH1, BACK, size=2, numbers=[0, GREATEST]), [(0, 0, (0, GREATEST), ())], rows=0)

    def test_main_has_any_number(self):
        blocks, main = compiled_text("def f(x) = x def g() = 1 def main(a) = let b = a in (fn x => x + b) ! a")
        self.assertEqual(main, 2)
        self.stands(Machine(blocks, main, [9], 10), [(2, 0, (9, None), ())], rows=0)

    def test_two_machines_beside_each_other(self):
        blocks, main = compiled_text("def main(a) = f(a : []) def f(x) = head x + 1")
        one, other = Machine(blocks, main, [1], 10), Machine(blocks, main, [2], 10)
        for many in range(3):
            one.step()
        self.stands(other, [(0, 0, (2,), ())], rows=0)
        finished(one)
        self.stands(other, [(0, 0, (2,), ())], rows=0)
        finished(other)
        self.over(one, ("value", 2), 10, 1, cells=[("pair", 1, None)])
        self.over(other, ("value", 3), 10, 1, cells=[("pair", 2, None)])

    def test_what_is_done_later_to_what_was_handed_in_changes_nothing(self):
        blocks, main = compiled_text("def main(a) = f(a) + 1 def f(x) = x")
        numbers = [4]
        machine = Machine(blocks, main, numbers, 10)
        numbers[0] = 99
        blocks[0] = (1, 1, (("push", 0), BACK))
        blocks.clear()
        self.assertEqual(finished(machine), 7)
        self.over(machine, ("value", 5), 7, 1)

    def test_nothing_that_is_handed_in_is_changed(self):
        blocks, main = compiled_text("def main(a) = let x = a : [] in (fn y => head x + y) ! f(a) def f(x) = x")
        numbers = [4]
        kept = repr((blocks, numbers))
        machine = Machine(blocks, main, numbers, 10)
        finished(machine)
        machine.collect()
        self.assertEqual(repr((blocks, numbers)), kept)


class RowsTest(MachineTest):
    """Point 20, row by row."""

    def goes(self, machine, *states):
        """A state is the last frame's row, slots and stack, all in block 0."""
        for rows, (at, slots, stack) in enumerate(states):
            self.stands(machine, [(0, at, slots, stack)], machine.cells(), rows)
            self.assertIs(machine.step(), True)

    def test_push_none_load_and_keep(self):
        machine = self.machine(("push", 7), ("keep", 1), ("load", 0), ("load", 1), NONE, ("keep", 0), ("push", True),
                               BACK, size=2, numbers=[5])
        self.goes(machine, (0, (5, None), ()), (1, (5, None), (7,)), (2, (5, 7), ()), (3, (5, 7), (5,)),
                  (4, (5, 7), (5, 7)), (5, (5, 7), (5, 7, None)), (6, (None, 7), (5, 7)), (7, (None, 7), (5, 7, True)))
        self.over(machine, ("value", True), 8)

    def test_numbers(self):
        for word, told in (("add", 5), ("sub", 9), ("mul", -14), ("div", -4), ("less", False), ("same", False)):
            machine = self.machine(("load", 0), ("load", 1), (word,), BACK, size=2, numbers=[7, -2])
            self.goes(machine, (0, (7, -2), ()), (1, (7, -2), (7,)), (2, (7, -2), (7, -2)), (3, (7, -2), (told,)))
            self.over(machine, ("value", told), 4)

    def test_refused_numbers(self):
        for word, a, b, refusal in (
                ("add", GREATEST, 1, "great"), ("add", -GREATEST, -1, "great"), ("sub", -GREATEST, 1, "great"),
                ("sub", GREATEST, -1, "great"), ("mul", GREATEST, 2, "great"), ("mul", GREATEST, -2, "great"),
                ("div", 5, 0, "nought"), ("div", 0, 0, "nought")):
            machine = self.machine(("load", 0), ("load", 1), (word,), BACK, size=2, numbers=[a, b])
            self.goes(machine, (0, (a, b), ()), (1, (a, b), (a,)), (2, (a, b), (a, b)))
            self.over(machine, ("refused", refusal), 3)

    def test_just_not_refused(self):
        for word, a, b, told in (
                ("add", GREATEST, 0, GREATEST), ("add", -GREATEST, 1, 1 - GREATEST), ("sub", GREATEST, 0, GREATEST),
                ("sub", 0, GREATEST, -GREATEST), ("mul", GREATEST, -1, -GREATEST), ("div", 0, 5, 0),
                ("div", -GREATEST, 1, -GREATEST), ("div", -1, GREATEST, -1)):
            machine = self.machine(("load", 0), ("load", 1), (word,), BACK, size=2, numbers=[a, b])
            finished(machine)
            self.over(machine, ("value", told), 4)

    def test_lists(self):
        machine = self.machine(PUSH1, ("push", 2), NONE, CONS, CONS, ("keep", 0), ("load", 0), ("tail",), ("load", 0),
                               ("head",), ("load", 0), ("empty",), ("not",), NONE, ("empty",), ("load", 0), BACK, size=1)
        put = [("pair", 2, None), ("pair", 1, cell(0))]
        stacks = [(), (1,), (1, 2), (1, 2, None), (1, cell(0)), (cell(1),)]
        self.goes(machine, *[(at, (None,), stack) for at, stack in enumerate(stacks)])
        kept = (cell(1),)
        stacks = [(), kept, (cell(0),), (cell(0), cell(1)), (cell(0), 1), (cell(0), 1, cell(1)), (cell(0), 1, False),
                  (cell(0), 1, True), (cell(0), 1, True, None), (cell(0), 1, True, True),
                  (cell(0), 1, True, True, cell(1))]
        for at, stack in enumerate(stacks, start=6):
            self.stands(machine, [(0, at, kept, stack)], put, at)
            machine.step()
        self.over(machine, ("value", [1, 2]), 17, cells=put)

    def test_head_and_tail_of_an_empty_list(self):
        for word in ("head", "tail"):
            machine = self.machine(PUSH1, NONE, CONS, NONE, (word,), BACK)
            self.assertEqual(finished(machine), 5)
            self.over(machine, ("refused", word), 5, cells=[("pair", 1, None)])

    def test_not(self):
        machine = self.machine(("push", False), ("not",), ("not",), BACK)
        self.goes(machine, (0, (), ()), (1, (), (False,)), (2, (), (True,)), (3, (), (False,)))
        self.over(machine, ("value", False), 4)

    def test_skip(self):
        machine = self.machine(("skip", 0), ("push", 5), ("skip", 2), ("push", 6), ("push", 7), BACK)
        self.goes(machine, (0, (), ()), (1, (), ()), (2, (), (5,)), (5, (), (5,)))
        self.over(machine, ("value", 5), 4)

    def test_unless(self):
        for n in (0, 1, 2):
            rows = (("push", 5), ("push", True), ("unless", n), ("push", 6), ("push", 7), BACK)
            machine = self.machine(*rows)
            self.goes(machine, (0, (), ()), (1, (), (5,)), (2, (), (5, True)), (3, (), (5,)), (4, (), (5, 6)),
                      (5, (), (5, 6, 7)))
            self.over(machine, ("value", 7), 6)
            machine = self.machine(*rows[:1], ("push", False), *rows[2:])
            self.goes(machine, (0, (), ()), (1, (), (5,)), (2, (), (5, False)))
            left = {0: (5, 6, 7), 1: (5, 7), 2: (5,)}[n]
            finished(machine)
            self.over(machine, ("value", left[-1]), 3 + len(left))

    def test_call_and_back(self):
        callee = (3, 5, (("load", 0), ("load", 2), ("keep", 3), BACK))
        machine = self.machine(("push", 9), ("push", 5), ("push", 6), ("push", 7), ("call", 1, 3), ("keep", 0),
                               ("load", 0), BACK, size=1, others=[callee])
        for many in range(4):
            machine.step()
        self.stands(machine, [(0, 4, (None,), (9, 5, 6, 7))], rows=4)
        waits = (0, 5, (None,), (9,))
        for rows, frame in enumerate([
                (1, 0, (5, 6, 7, None, None), ()), (1, 1, (5, 6, 7, None, None), (5,)),
                (1, 2, (5, 6, 7, None, None), (5, 7)), (1, 3, (5, 6, 7, 7, None), (5,))], start=5):
            self.assertIs(machine.step(), True)
            self.stands(machine, [waits, frame], rows=rows, calls=1)
        machine.step()
        self.stands(machine, [(0, 5, (None,), (9, 5))], rows=9, calls=1)
        machine.step()
        self.stands(machine, [(0, 6, (5,), (9,))], rows=10, calls=1)
        finished(machine)
        self.over(machine, ("value", 5), 12, 1)

    def test_call_of_none(self):
        machine = self.machine(("push", 8), ("call", 1, 0), ADD, BACK, others=[(0, 2, (("push", 3), BACK))])
        machine.step()
        machine.step()
        self.stands(machine, [(0, 2, (), (8,)), (1, 0, (None, None), ())], rows=2, calls=1)
        machine.step()
        machine.step()
        self.stands(machine, [(0, 2, (), (8, 3))], rows=4, calls=1)
        finished(machine)
        self.over(machine, ("value", 11), 6, 1)

    def test_close_and_apply(self):
        fn = (3, 4, (("load", 1), ("load", 2), ("sub",), BACK))
        machine = self.machine(("push", 9), ("push", 5), ("push", 6), ("close", 1, 2), ("push", 4), APPLY, BACK,
                               others=[fn])
        for many in range(3):
            machine.step()
        self.stands(machine, [(0, 3, (), (9, 5, 6))], rows=3)
        machine.step()
        put = [("fn", 1, (5, 6))]
        self.stands(machine, [(0, 4, (), (9, cell(0)))], put, rows=4)
        machine.step()
        self.stands(machine, [(0, 5, (), (9, cell(0), 4))], put, rows=5)
        machine.step()
        self.stands(machine, [(0, 6, (), (9,)), (1, 0, (5, 6, 4, None), ())], put, rows=6, calls=1)
        self.assertEqual(finished(machine), 5)
        self.over(machine, ("value", 2), 11, 1, cells=put)

    def test_apply_of_an_fn_that_took_none(self):
        machine = self.machine(("close", 1, 0), ("close", 1, 0), APPLY, ("push", 4), APPLY, BACK,
                               others=[(1, 1, (("load", 0), BACK))])
        put = [("fn", 1, ()), ("fn", 1, ())]
        for many in range(3):
            machine.step()
        self.stands(machine, [(0, 3, (), ()), (1, 0, (cell(1),), ())], put, rows=3, calls=1)
        finished(machine)
        self.over(machine, ("value", 4), 10, 2, cells=put)

    def test_frames_are_told_from_main_on(self):
        blocks, main = compiled_text("def f(x) = x def main(n) = 1 + g(n) def g(x) = 2 + f(x)")
        machine = Machine(blocks, main, [7], 10)
        for many in range(6):
            machine.step()
        self.stands(machine, [(1, 3, (7,), (1,)), (2, 3, (7,), (2,)), (0, 0, (7,), ())], rows=6, calls=2)

    def test_back_takes_the_top(self):
        machine = self.machine(("push", 5), ("call", 1, 0), BACK, others=[(0, 0, (("push", 6), ("push", 7), BACK))])
        finished(machine)
        self.over(machine, ("value", 7), 6, 1)

    def test_the_answer_is_the_askers_own(self):
        blocks, main = compiled_text("def main() = (1 : []) : [] : []")
        machine = Machine(blocks, main, [], 0)
        finished(machine)
        told = machine.answer()
        told[1][0].append(2)
        told[1][1].append(3)
        told[1].append(4)
        self.assertEqual(machine.answer(), ("value", [[1], []]))
        self.assertEqual(machine.collect(), 0)
        self.assertEqual(machine.answer(), ("value", [[1], []]))

    def test_told_frames_stay(self):
        blocks, main = compiled_text("def main(n) = f(n : []) def f(x) = head x")
        machine = Machine(blocks, main, [3], 10)
        told = []
        while machine.answer() is None:
            told.append((machine.frames(), machine.cells(), repr((machine.frames(), machine.cells()))))
            machine.step()
        for frames, cells, text in told:
            self.assertEqual(repr((frames, cells)), text)

    def test_great_blocks(self):
        machine = self.machine(*[PUSH1] * 3000, *[ADD] * 2999, BACK)
        self.assertEqual(finished(machine), 6000)
        self.over(machine, ("value", 3000), 6000)
        rows = sum([(("push", k), ("keep", k)) for k in range(1000)], ()) + (("load", 999), BACK)
        machine = self.machine(*rows, size=1000)
        finished(machine)
        self.over(machine, ("value", 999), 2002)

    def test_a_long_list(self):
        rows = [NONE, ("keep", 0)]
        for k in range(20000):
            rows += [("push", k), ("load", 0), CONS, ("keep", 0)]
        machine = self.machine(*rows, ("load", 0), BACK, size=1)
        self.assertEqual(finished(machine), 80004)
        self.assertEqual(machine.answer(), ("value", list(range(20000))[::-1]))
        self.assertEqual(machine.collect(), 0)
        self.assertEqual(machine.answer(), ("value", list(range(20000))[::-1]))


class CountTest(MachineTest):
    """Points 14 and 15: dry, deep, and which calls count."""

    def ends(self, text, numbers, most, answer, calls):
        blocks, main = compiled_text(text)
        machine = Machine(blocks, main, numbers, most)
        while machine.step():
            self.assertLessEqual(machine.calls(), most)
            self.assertEqual(machine.answer() is None, machine.frames() != [])
            self.assertLessEqual(len(machine.frames()), 60)
        self.assertEqual((machine.answer(), machine.calls()), (answer, calls))
        self.assertEqual(reckoned(read(text), numbers, most), answer)
        return machine

    def test_just_enough_and_one_too_few_by_calls(self):
        text = "def main(n) = f(n) + f(n) * f(n) def f(x) = x + 1"
        self.ends(text, [2], 3, ("value", 12), 3)
        self.ends(text, [2], 1000, ("value", 12), 3)
        for most in (0, 1, 2):
            self.ends(text, [2], most, DRY, most)

    def test_just_enough_and_one_too_few_by_applies(self):
        text = "def main(n) = let f = fn x => x + n in f ! (f ! (f ! n))"
        self.ends(text, [2], 3, ("value", 8), 3)
        for most in (0, 1, 2):
            self.ends(text, [2], most, DRY, most)

    def test_by_calls_and_applies(self):
        text = "def main(n) = (fn x => f(x)) ! f(n) def f(x) = (fn y => y + 1) ! x"
        self.ends(text, [0], 5, ("value", 2), 5)
        for most in range(5):
            self.ends(text, [0], most, DRY, most)

    def test_nothing_is_called(self):
        self.ends("def main(n) = n + 1", [4], 0, ("value", 5), 0)
        self.ends("def main(n) = if n < 5 then 1 else main(n)", [4], 0, ("value", 1), 0)
        self.ends("def main(n) = let f = fn x => x in n", [4], 0, ("value", 4), 0)

    def test_a_call_counts_behind_its_terms(self):
        self.ends("def main() = f(1 / 0) def f(x) = x", [], 0, ("refused", "nought"), 0)
        self.ends("def main() = (fn x => x) ! (head [])", [], 0, ("refused", "head"), 0)
        self.ends("def main() = f(f(1) + 1 / 0) def f(x) = x", [], 1, ("refused", "nought"), 1)
        self.ends("def main() = f(f(1) + 1 / 0) def f(x) = x", [], 0, DRY, 0)

    def test_deep_by_calls(self):
        text = "def main(n) = down(n) def down(n) = if n < 1 then 0 else 1 + down(n - 1)"
        self.ends(text, [58], 1000, ("value", 58), 59)
        self.ends(text, [59], 1000, DEEP, 60)
        self.ends(text, [500], 1000, DEEP, 60)

    def test_deep_by_main_itself(self):
        text = "def main(n) = if n < 1 then 0 else 1 + main(n - 1)"
        self.ends(text, [59], 1000, ("value", 59), 59)
        self.ends(text, [60], 1000, DEEP, 60)

    def test_deep_by_applies(self):
        text = ("def main(n) = rec(n) ! 0 def rec(n) = "
                "if n < 1 then fn x => x else fn x => 1 + (rec(n - 1) ! x)")
        self.ends(text, [58], 1000, ("value", 58), 118)
        self.ends(text, [59], 1000, DEEP, 119)

    def test_dry_where_both_come_at_once(self):
        text = "def main(n) = if n < 1 then 0 else 1 + main(n - 1)"
        self.ends(text, [100], 58, DRY, 58)
        self.ends(text, [100], 59, DRY, 59)
        self.ends(text, [100], 60, DEEP, 60)
        self.ends(text, [59], 59, ("value", 59), 59)
        self.ends(text, [59], 58, DRY, 58)
        by_fns = "def main(n) = if n < 1 then 0 else (fn x => main(x - 1)) ! n"
        self.ends(by_fns, [100], 59, DRY, 59)
        self.ends(by_fns, [100], 60, DEEP, 60)

    def test_the_sixty_first_is_an_apply(self):
        text = "def main(n) = if n < 1 then (fn x => x) ! 7 else main(n - 1)"
        self.ends(text, [58], 1000, ("value", 7), 59)
        self.ends(text, [59], 1000, DEEP, 60)
        self.ends(text, [59], 59, DRY, 59)

    def test_calls_one_behind_the_other(self):
        text = ("def main(n) = ten(n) + ten(n) + ten(n) + ten(n) + ten(n) + ten(n) + ten(n) + ten(n) "
                "def ten(x) = f(x) + f(x) + f(x) + f(x) + f(x) + f(x) + f(x) + f(x) + f(x) + f(x) def f(x) = x")
        self.ends(text, [1], 1000, ("value", 80), 88)
        self.ends(text, [1], 88, ("value", 80), 88)
        self.ends(text, [1], 87, DRY, 87)

    def test_deep_again_behind_calls_that_came_back(self):
        text = ("def main(n) = down(n) + down(n) + down(n + 1) "
                "def down(n) = if n < 1 then 0 else 1 + down(n - 1)")
        self.ends(text, [58], 1000, DEEP, 178)
        self.ends(text, [57], 1000, ("value", 172), 175)

    def test_more_than_a_thousand(self):
        text = ("def main(n) = twelve(n) + twelve(n) + twelve(n) def twelve(n) = f(n) + f(n) + f(n) + f(n) + f(n) + f(n) "
                "+ f(n) + f(n) + f(n) + f(n) + f(n) + f(n) "
                "def f(n) = g(n) + g(n) + g(n) + g(n) + g(n) + g(n) def g(n) = h(n) + h(n) + h(n) + h(n) def h(n) = n")
        calls = 3 + 36 + 36 * 6 + 36 * 6 * 4
        self.ends(text, [1], calls, ("value", 36 * 6 * 4), calls)
        self.ends(text, [1], calls - 1, DRY, calls - 1)
        self.ends(text, [1], 1000, DRY, 1000)

    def test_nothing_hangs_behind_dry_and_deep(self):
        text = "def main(n) = let x = n : [] in f(x) def f(x) = f(1 : x)"
        for most, answer in ((3, DRY), (1000, DEEP)):
            machine = self.ends(text, [1], most, answer, min(most, 60))
            many = min(most, 60) + 1 if answer == DRY else 60
            self.assertEqual(len(machine.cells()), many)
            self.assertEqual(machine.collect(), many)
            self.assertEqual(machine.cells(), [])
            self.assertEqual(machine.answer(), answer)
            self.assertEqual(machine.collect(), 0)

    def test_refusals_far_within(self):
        text = "def main(n) = down(n) def down(n) = if n < 1 then TERM else 1 + down(n - 1)"
        for term, word in (("1 / 0", "nought"), ("head []", "head"), ("head (tail [])", "tail"),
                           ("999999999999 * 999999999999 * 999999999999 * 999999999999", "great")):
            machine = self.ends(text.replace("TERM", term), [40], 1000, ("refused", word), 41)
            self.assertEqual(machine.frames(), [])
            self.assertIs(machine.step(), False)


class AgainstMillTest(unittest.TestCase):
    """The machine, row by row, with and without collecting, held to one over objects of Python's."""

    def alike(self, machine, mill):
        frames, cells = mill.told()
        self.assertEqual(repr(machine.frames()), repr(frames))
        self.assertEqual(repr(machine.cells()), repr(cells))
        self.assertEqual(repr(machine.answer()), repr(mill.answer()))
        self.assertEqual((machine.rows_done(), machine.calls()), (mill.rows, mill.calls))

    def collected(self, machine, mill):
        gone = machine.collect()
        self.assertEqual(gone, mill.collect())
        self.assertEqual(len(machine.cells()), len(mill.kept))
        if mill.outcome is None:
            mill.order_as(machine.frames(), machine.cells())
            self.alike(machine, mill)
        self.assertEqual(repr(machine.answer()), repr(mill.answer()))
        self.assertEqual(machine.collect(), 0)
        return gone

    def goes(self, chance, program, numbers, most, how_often):
        """Tells the answer and how many cells were gone."""
        blocks, main = compiled(placed(program))
        machine, mill = Machine(blocks, main, numbers, most), Mill(blocks, main, numbers, most)
        gone = 0
        while mill.outcome is None:
            # To hold each row to the other machine takes long where there are many.
            if mill.rows < 300 or mill.rows % 50 == 0:
                self.alike(machine, mill)
            if mill.rows < 300 and chance.random() < how_often:
                gone += self.collected(machine, mill)
            self.assertIs(machine.step(), True)
            mill.step()
        self.alike(machine, mill)
        gone += self.collected(machine, mill)
        self.assertIs(machine.step(), False)
        return machine.answer(), gone

    def test_any_programs(self):
        chance = seeded(20)
        words, gone = [], 0
        for many in range(800):
            program = any_kinded_program(chance, 2 + many % 5)
            names = [function for function in program if function[1] == "main"][0][2]
            numbers = [chance.choice((-3, -1, 0, 1, 2, 5, GREATEST, -GREATEST)) for name in names]
            most = chance.choice((2, 30, 100))
            answer, cells = self.goes(chance, program, numbers, most, chance.choice((0, 0.05, 0.5, 1)))
            self.assertEqual(repr(answer), repr(reckoned(program, numbers, most)))
            words.append(answer[-1] if answer[0] == "refused" else answer[0])
            gone += cells
        for word in ("value", "dry", "deep", "great", "nought", "head", "tail"):
            self.assertGreater(words.count(word), 2, msg=word)
        self.assertGreater(gone, 1500)


if __name__ == "__main__":
    unittest.main()
