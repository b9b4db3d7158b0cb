"""Points 21, 24 and 25: what the machine clears away, and answers by any rounds."""

import unittest

from examples import TEXTS
from filling import any_kinded_program
from helpers import cell, compiled_text, seeded
from speakmill.cells import Cells
from speakmill.compiling import compiled
from speakmill.machine import Machine, run
from speakmill.numbers import GREATEST
from speakmill.reading import read
from speakmill.reckoning import reckoned
from speakmill.scopes import placed

BACK, CONS, APPLY, NONE = ("back",), ("cons",), ("apply",), ("none",)
PUSH1 = ("push", 1)


def after(machine, rows):
    for many in range(rows):
        machine.step()
    return machine


def rows_of_run(blocks, main, numbers, most):
    machine = Machine(blocks, main, numbers, most)
    while machine.step():
        pass
    return machine.rows_done()


class CollectTest(unittest.TestCase):
    """Point 21, on the machine."""

    def collects(self, machine, gone, frames=None, cells=None):
        rows, calls, answer = machine.rows_done(), machine.calls(), repr(machine.answer())
        many = len(machine.cells())
        told = machine.collect()
        self.assertEqual(told, gone)
        self.assertIs(type(told), int)
        self.assertEqual(len(machine.cells()), many - gone)
        if frames is not None:
            self.assertEqual(repr(machine.frames()), repr(frames))
            self.assertEqual(repr(machine.cells()), repr(cells))
        self.assertEqual((machine.rows_done(), machine.calls(), repr(machine.answer())), (rows, calls, answer))
        kept = repr((machine.frames(), machine.cells()))
        self.assertEqual(machine.collect(), 0)
        self.assertEqual(repr((machine.frames(), machine.cells())), kept)

    def by_rows(self, *rows, size=0, others=()):
        return Machine([(0, size, rows + (BACK,))] + list(others), 0, [], 1000)

    def test_ahead_of_the_first_row(self):
        self.collects(self.by_rows(PUSH1, size=2), 0, [(0, 0, (None, None), ())], [])

    def test_by_the_stack(self):
        machine = after(self.by_rows(PUSH1, NONE, CONS, ("head",), ("push", 2), NONE, CONS), 7)
        self.assertEqual(machine.cells(), [("pair", 1, None), ("pair", 2, None)])
        self.collects(machine, 1, [(0, 7, (), (1, cell(0)))], [("pair", 2, None)])

    def test_by_the_slots(self):
        machine = after(self.by_rows(PUSH1, NONE, CONS, ("keep", 1), ("push", 2), NONE, CONS, ("keep", 0), ("push", 3),
                                     NONE, CONS, ("keep", 1), size=2), 12)
        self.assertEqual(len(machine.cells()), 3)
        self.collects(machine, 1, [(0, 12, (cell(0), cell(1)), ())], [("pair", 2, None), ("pair", 3, None)])

    # A slot that no row loads any more is one from which cells can be come to all the same.
    def test_by_a_slot_that_is_not_loaded_again(self):
        machine = after(self.by_rows(PUSH1, NONE, CONS, ("keep", 0), ("push", 2), size=1), 5)
        self.collects(machine, 0, [(0, 5, (cell(0),), (2,))], [("pair", 1, None)])

    def test_by_frames_that_wait(self):
        rows = (PUSH1, NONE, CONS, ("keep", 0), ("push", 2), NONE, CONS, ("push", 3), NONE, CONS, ("head",),
                ("call", 1, 1))
        machine = after(self.by_rows(*rows, size=1, others=[(1, 2, (NONE, ("keep", 1), ("load", 0), NONE, CONS, BACK))]),
                        17)
        self.assertEqual(len(machine.cells()), 4)
        self.collects(machine, 1, [(0, 12, (cell(0),), (cell(1),)), (1, 5, (3, None), (cell(2),))],
                      [("pair", 1, None), ("pair", 2, None), ("pair", 3, None)])

    def test_what_a_call_or_a_back_takes_is_kept_by_the_new_frame(self):
        machine = after(self.by_rows(PUSH1, NONE, CONS, ("call", 1, 1), others=[(1, 1, (("load", 0), BACK))]), 4)
        self.collects(machine, 0, [(0, 4, (), ()), (1, 0, (cell(0),), ())], [("pair", 1, None)])
        self.collects(after(machine, 2), 0, [(0, 4, (), (cell(0),))], [("pair", 1, None)])

    def test_an_fn_is_gone_behind_its_apply(self):
        machine = after(self.by_rows(PUSH1, NONE, CONS, ("close", 1, 1), ("push", 5), APPLY,
                                     others=[(2, 2, (("load", 0), BACK))]), 6)
        self.assertEqual(machine.cells(), [("pair", 1, None), ("fn", 1, (cell(0),))])
        self.collects(machine, 1, [(0, 6, (), ()), (1, 0, (cell(0), 5), ())], [("pair", 1, None)])

    def test_twice_and_by_way_of_several(self):
        machine = after(self.by_rows(
            ("push", 9), NONE, CONS, ("head",), PUSH1, NONE, CONS, ("keep", 0), ("load", 0), ("load", 0), CONS,
            ("load", 0), ("close", 1, 2), ("keep", 1), ("load", 1), ("load", 1), size=2, others=[(3, 3, (BACK,))]), 16)
        self.assertEqual(len(machine.cells()), 4)
        self.collects(machine, 1, [(0, 16, (cell(0), cell(2)), (9, cell(2), cell(2)))],
                      [("pair", 1, None), ("pair", cell(0), cell(0)), ("fn", 1, (cell(1), cell(0)))])

    def test_two_that_are_alike_stay_two(self):
        machine = after(self.by_rows(PUSH1, NONE, CONS, PUSH1, NONE, CONS, ("close", 1, 0), ("close", 1, 0)), 8)
        self.collects(machine, 0, [(0, 8, (), (cell(0), cell(1), cell(2), cell(3)))],
                      [("pair", 1, None)] * 2 + [("fn", 1, ())] * 2)

    def test_a_new_cell_behind_it_has_the_number_of_how_many_there_are(self):
        machine = after(self.by_rows(PUSH1, NONE, CONS, ("head",), NONE, CONS), 4)
        self.collects(machine, 1, [(0, 4, (), (1,))], [])
        after(machine, 2)
        self.assertEqual(machine.cells(), [("pair", 1, None)])
        self.assertEqual(machine.frames(), [(0, 6, (), (cell(0),))])

    def test_behind_the_end_by_a_list(self):
        blocks, main = compiled_text("def main(n) = let x = 8 : 9 : [] in let y = n : x in (fn z => tail y) ! 1")
        machine = after(Machine(blocks, main, [3], 10), 100)
        self.assertEqual((machine.answer(), len(machine.cells())), (("value", [8, 9]), 4))
        self.collects(machine, 2, [], [("pair", 9, None), ("pair", 8, cell(0))])

    def test_behind_the_end_by_lists_within_lists(self):
        blocks, main = compiled_text("def main(n) = let x = n : [] in let y = 5 : x in tail ([] : x : [] : x : [])")
        machine = after(Machine(blocks, main, [3], 10), 100)
        self.assertEqual((machine.answer(), len(machine.cells())), (("value", [[3], [], [3]]), 6))
        self.collects(machine, 2)

    def test_behind_the_end_by_a_number_a_truth_and_an_empty_list(self):
        for term, value in (("head x", 3), ("empty x", False), ("tail x", [])):
            blocks, main = compiled_text(f"def main(n) = let x = n : [] in {term}")
            machine = after(Machine(blocks, main, [3], 10), 100)
            self.assertEqual(machine.answer(), ("value", value))
            self.collects(machine, 1, [], [])

    def test_behind_the_end_by_a_refusal(self):
        for term, word in (("head tail x", "head"), ("tail tail x", "tail"), ("1 / 0", "nought"), ("n + n", "great")):
            blocks, main = compiled_text(f"def main(n) = let x = n : [] in {term}")
            machine = after(Machine(blocks, main, [GREATEST], 10), 100)
            self.assertEqual((machine.answer(), len(machine.cells())), (("refused", word), 1))
            self.collects(machine, 1, [], [])

    def test_a_long_list(self):
        rows = [NONE]
        for k in range(20000):
            rows += [("keep", 0), ("push", k), ("load", 0), CONS]
        machine = self.by_rows(*rows, size=1)
        after(machine, len(rows) - 1)
        self.collects(machine, 0)
        after(machine, 1)
        self.collects(machine, 0)
        after(machine, 1)
        self.collects(machine, 0)
        self.assertEqual(machine.answer(), ("value", list(range(20000))[::-1]))

    def test_collected_ahead_of_every_row(self):
        for text, numbers in TEXTS:
            blocks, main = compiled_text(text)
            for most in (5, 1000):
                one, other = Machine(blocks, main, numbers, most), Machine(blocks, main, numbers, most)
                gone = 0
                is_going = True
                while is_going:
                    gone += one.collect()
                    self.assertEqual(one.collect(), 0)
                    is_going = one.step()
                    self.assertIs(other.step(), is_going)
                    self.assertEqual(len(one.cells()) + gone, len(other.cells()))
                    self.assertEqual(repr(one.answer()), repr(other.answer()))
                    self.assertEqual([frame[:2] for frame in one.frames()], [frame[:2] for frame in other.frames()])
                self.assertEqual((one.rows_done(), one.calls()), (other.rows_done(), other.calls()))
                other.collect()
                one.collect()
                self.assertEqual(len(one.cells()), len(other.cells()))


class RunTest(unittest.TestCase):
    """Points 24 and 25."""

    def runs(self, blocks, main, numbers, most, rounds, answer):
        kept = repr((blocks, numbers, rounds))
        for many in range(2):
            self.assertEqual(repr(run(blocks, main, numbers, most, rounds)), repr(answer), msg=rounds)
        self.assertEqual(repr((blocks, numbers, rounds)), kept)

    def test_any_rounds(self):
        chance = seeded(24)
        for text, numbers in TEXTS:
            blocks, main = compiled_text(text)
            for most in (0, 5, 1000):
                answer = reckoned(read(text), numbers, most)
                rows = rows_of_run(blocks, main, numbers, most)
                every = list(range(rows))
                for rounds in ([], [0], every, every[::-1], [rows - 1], [rows], [rows + 5, 10 ** 50], [0, 0, 1, 1],
                               list(range(rows + 20)), every + every, every[::3], [2, 10 ** 9, 2, 0],
                               [chance.randrange(2 * rows) for many in range(rows)]):
                    self.runs(blocks, main, numbers, most, rounds, answer)

    def test_the_answer_is_the_askers_own(self):
        blocks, main = compiled_text("def main(n) = (n : []) : []")
        told = run(blocks, main, [4], 0, [1])
        told[1][0].append(5)
        told[1].append(6)
        self.assertEqual(run(blocks, main, [4], 0, [1]), ("value", [[4]]))

    def test_rounds_say_ahead_of_which_rows(self):
        """Seen by what the cells are asked for: how often cells are put is how often, and when, they are moved."""
        blocks, main = compiled_text("def main(n) = let x = n : [] in head x + 1")
        put = Cells.put
        moved = []

        def counted(cells, one):
            moved.append(one)
            return put(cells, one)

        Cells.put = counted
        try:
            # The cell is there from behind row 2 up to the end, ahead of row 9, to which none comes.
            self.assertEqual(rows_of_run(blocks, main, [4], 0), 9)
            for rounds, many in (([], 1), ([0, 1, 2], 1), ([3], 2), ([8], 2), ([9], 1), ([9, 10, 11, 500], 1),
                                 ([3, 8], 3), ([8, 3], 3), ([3, 3, 3], 2), (list(range(9)), 7),
                                 (list(range(100)), 7), ([3, 8, 9], 3)):
                moved.clear()
                self.assertEqual(run(blocks, main, [4], 0, rounds), ("value", 5))
                self.assertEqual(len(moved), many, msg=rounds)
        finally:
            Cells.put = put

    def test_against_reckoning(self):
        chance = seeded(25)
        words = []
        for many in range(500):
            program = any_kinded_program(chance, 2 + many % 5)
            names = [function for function in program if function[1] == "main"][0][2]
            numbers = [chance.choice((-3, -1, 0, 1, 2, 5, GREATEST, -GREATEST)) for name in names]
            blocks, main = compiled(placed(program))
            for most in (0, 1, 20, 200):
                answer = reckoned(program, numbers, most)
                rounds = [chance.randrange(300) for one in range(chance.choice((0, 1, 5, 50)))]
                self.assertEqual(repr(run(blocks, main, numbers, most, rounds)), repr(answer))
                words.append(answer[-1] if answer[0] == "refused" else answer[0])
        for word in ("value", "dry", "deep", "great", "nought", "head", "tail"):
            self.assertGreater(words.count(word), 1, msg=word)


if __name__ == "__main__":
    unittest.main()
