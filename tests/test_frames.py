"""Points 19 and 20: frames, and what each row does to them."""

import unittest

from helpers import cell, cells_of
from speakmill.frames import called, entered, own_done
from speakmill.numbers import GREATEST, two_told

BLOCKS = [(0, 0, (("push", 1), ("back",))), (2, 5, (("load", 0), ("back",))), (3, 3, (("load", 2), ("back",)))]
NUMBER_ROWS = (("add", "+"), ("sub", "-"), ("mul", "*"), ("div", "/"), ("less", "<"), ("same", "="))


class EnteredTest(unittest.TestCase):
    def entered(self, number, values, slots):
        kept, handed = repr(BLOCKS), repr(values)
        for many in range(2):
            self.assertEqual(repr(entered(BLOCKS, number, values)), repr((number, 0, slots, ())))
        self.assertEqual((repr(BLOCKS), repr(values)), (kept, handed))

    def test_of_none_to_all_of_the_slots(self):
        for kind in (list, tuple):
            self.entered(0, kind(), ())
            self.entered(1, kind(), (None,) * 5)
            self.entered(1, kind([7]), (7, None, None, None, None))
            self.entered(1, kind([7, True]), (7, True, None, None, None))
            self.entered(1, kind([None, cell(3)]), (None, cell(3), None, None, None))
            self.entered(1, kind([1, 2, 3, 4]), (1, 2, 3, 4, None))
            self.entered(1, kind([1, 2, 3, 4, 5]), (1, 2, 3, 4, 5))
            self.entered(2, kind([1, 1, False]), (1, 1, False))

    def test_what_is_done_to_the_values_later_changes_nothing(self):
        values = [1, 2]
        frame = entered(BLOCKS, 1, values)
        values[0] = 9
        values.append(3)
        self.assertEqual(frame, (1, 0, (1, 2, None, None, None), ()))

    def test_many_slots(self):
        values = list(range(5000))
        self.assertEqual(entered([(5000, 6000, ())], 0, values), (0, 0, tuple(values) + (None,) * 1000, ()))


class OwnDoneTest(unittest.TestCase):
    """Each row is done by a frame that has some values below, more slots than its block, and a row far behind."""

    def does(self, row, stack, wanted, put=(), new=(), slots=(4, None, True, 6), slots_behind=None, further=0):
        for below in ((), (0,), (None, cell(0), True)):
            for block, at in ((0, 0), (1, 0), (2, 17)):
                cells = cells_of(*put)
                frame = (block, at, slots, below + stack)
                handed = repr(frame)
                told = own_done(cells, frame, row)
                behind = (block, at + 1 + further, slots if slots_behind is None else slots_behind, below + wanted)
                self.assertEqual(repr(told), repr(("frame", behind)))
                self.assertEqual(repr(cells.told()), repr(list(put + new)))
                self.assertEqual(repr(frame), handed)

    def refused(self, row, stack, word, put=()):
        for below in ((), (0,), (None, cell(0), True)):
            cells = cells_of(*put)
            frame = (1, 3, (1, None), below + stack)
            self.assertEqual(own_done(cells, frame, row), ("refused", word))
            self.assertEqual(cells.told(), list(put))
            self.assertEqual(frame, (1, 3, (1, None), below + stack))

    def test_push(self):
        for value in (0, 1, -5, GREATEST, GREATEST * 7, True, False):
            self.does(("push", value), (), (value,))

    def test_none(self):
        self.does(("none",), (), (None,))

    def test_load(self):
        slots = (4, None, True, cell(1), 0)
        for k, value in enumerate(slots):
            self.does(("load", k), (), (value,), slots=slots)

    def test_keep(self):
        for value in (8, True, False, None, cell(2), 0):
            self.does(("keep", 0), (value,), (), slots_behind=(value, None, True, 6))
            self.does(("keep", 1), (value,), (), slots_behind=(4, value, True, 6))
            self.does(("keep", 2), (value,), (), slots_behind=(4, None, value, 6))
            self.does(("keep", 3), (value,), (), slots_behind=(4, None, True, value))
        self.does(("keep", 0), (5,), (), slots=(None,), slots_behind=(5,))

    def test_two_numbers(self):
        numbers = (0, 1, -1, 2, -7, 13, GREATEST, -GREATEST, GREATEST - 1, 1 - GREATEST)
        for word, sign in NUMBER_ROWS:
            for a in numbers:
                for b in numbers:
                    kind, told = two_told(sign, a, b)
                    if kind == "value":
                        self.does((word,), (a, b), (told,))
                    else:
                        self.refused((word,), (a, b), told)

    def test_the_second_number_is_the_top(self):
        for row, told in (("add", 9), ("sub", 5), ("mul", 14), ("div", 3), ("less", False), ("same", False)):
            self.does((row,), (7, 2), (told,))
        for row, told in (("add", 9), ("sub", -5), ("mul", 14), ("div", 0), ("less", True), ("same", False)):
            self.does((row,), (2, 7), (told,))
        self.does(("same",), (7, 7), (True,))
        self.does(("less",), (7, 7), (False,))
        self.does(("div",), (-7, 2), (-4,))
        self.does(("div",), (7, -2), (-4,))

    def test_great_and_nought(self):
        self.does(("add",), (GREATEST, 0), (GREATEST,))
        self.does(("sub",), (0, GREATEST), (-GREATEST,))
        self.does(("mul",), (10 ** 20, -10 ** 20), (-GREATEST,))
        self.refused(("add",), (GREATEST, 1), "great")
        self.refused(("add",), (-GREATEST, -1), "great")
        self.refused(("sub",), (-GREATEST, 1), "great")
        self.refused(("sub",), (GREATEST, -1), "great")
        self.refused(("mul",), (10 ** 20 + 1, 10 ** 20), "great")
        self.refused(("mul",), (10 ** 20 + 1, -10 ** 20), "great")
        self.refused(("div",), (7, 0), "nought")
        self.refused(("div",), (0, 0), "nought")
        self.does(("div",), (0, 7), (0,))

    def test_cons(self):
        old = (("pair", 9, None), ("fn", 2, ()))
        for head in (3, True, None, cell(0), cell(1)):
            for tail in (None, cell(0)):
                self.does(("cons",), (head, tail), (cell(0),), new=(("pair", head, tail),))
                self.does(("cons",), (head, tail), (cell(2),), put=old, new=(("pair", head, tail),))

    def test_head_and_tail(self):
        put = (("pair", 5, None), ("pair", True, cell(0)), ("pair", cell(1), cell(3)), ("pair", None, None))
        for n, (head, tail) in enumerate([one[1:] for one in put]):
            self.does(("head",), (cell(n),), (head,), put=put)
            self.does(("tail",), (cell(n),), (tail,), put=put)
        self.refused(("head",), (None,), "head", put=put)
        self.refused(("tail",), (None,), "tail", put=put)
        self.refused(("head",), (None,), "head")
        self.refused(("tail",), (None,), "tail")

    def test_any_head_and_tail_by_hand(self):
        values = (0, -3, True, False, None, cell(0), cell(1))
        for head in values:
            for tail in values:
                put = (("fn", 1, (2,)), ("pair", head, tail))
                self.does(("head",), (cell(1),), (head,), put=put)
                self.does(("tail",), (cell(1),), (tail,), put=put)

    def test_empty_and_not(self):
        self.does(("empty",), (None,), (True,))
        self.does(("empty",), (cell(0),), (False,), put=(("pair", 1, None),))
        self.does(("empty",), (cell(1),), (False,), put=(("pair", 1, None), ("pair", None, None)))
        self.does(("not",), (True,), (False,))
        self.does(("not",), (False,), (True,))

    def test_skip(self):
        for n in (0, 1, 2, 30):
            self.does(("skip", n), (), (), further=n)
            self.does(("skip", n), (True,), (True,), further=n)

    def test_unless(self):
        for n in (0, 1, 2, 30):
            self.does(("unless", n), (True,), ())
            self.does(("unless", n), (False,), (), further=n)
            self.does(("unless", n), (False, True), (False,))
            self.does(("unless", n), (True, False), (True,), further=n)

    def test_close(self):
        old = (("pair", 9, None), ("fn", 2, ()))
        for values in ((), (7,), (7, True), (None, cell(0), 7), (1, 2, 3, 4, 5, 6)):
            row = ("close", 4, len(values))
            self.does(row, values, (cell(0),), new=(("fn", 4, values),))
            self.does(row, (True, 8) + values, (True, 8, cell(2)), put=old, new=(("fn", 4, values),))

    def test_kinds_of_python(self):
        for row, stack in ((("push", 1), ()), (("keep", 0), (1,)), (("cons",), (1, None)), (("close", 0, 1), (1,)),
                           (("skip", 1), ()), (("unless", 1), (False,)), (("add",), (1, 2))):
            told = own_done(cells_of(), (0, 0, (None,), stack), row)
            self.assertIs(type(told), tuple)
            self.assertEqual([type(part) for part in told[1]], [int, int, tuple, tuple])

    def test_two_cells_are_told_apart(self):
        one, other = cells_of(), cells_of(("pair", 1, None))
        frame = (0, 0, (), (1, None))
        self.assertEqual(own_done(one, frame, ("cons",))[1][3], (cell(0),))
        self.assertEqual(own_done(other, frame, ("cons",))[1][3], (cell(1),))
        self.assertEqual(own_done(one, frame, ("cons",))[1][3], (cell(1),))
        self.assertEqual((one.many(), other.many()), (2, 2))

    def test_a_great_stack(self):
        stack = tuple(range(5000))
        self.assertEqual(own_done(cells_of(), (0, 0, (), stack), ("add",)), ("frame", (0, 1, (), stack[:-2] + (9997,))))
        cells = cells_of()
        self.assertEqual(own_done(cells, (0, 0, (), stack), ("close", 1, 4000)),
                         ("frame", (0, 1, (), stack[:1000] + (cell(0),))))
        self.assertEqual(cells.told(), [("fn", 1, stack[1000:])])


class CalledTest(unittest.TestCase):
    def calls(self, row, stack, left, number, slots, put=()):
        """The row stands in none of the blocks, and the frame has more slots than its own."""
        for at in (0, 1, 12):
            for own in ((), (4, None, True)):
                cells = cells_of(*put)
                frame = (0, at, own, stack)
                handed, kept = repr(frame), repr(BLOCKS)
                told = called(BLOCKS, cells, frame, row)
                self.assertEqual(repr(told), repr(((0, at + 1, own, left), (number, 0, slots, ()))))
                self.assertEqual((repr(frame), repr(BLOCKS)), (handed, kept))
                self.assertEqual(cells.told(), list(put))

    def test_calls(self):
        self.calls(("call", 0, 0), (), (), 0, ())
        self.calls(("call", 0, 0), (5, True), (5, True), 0, ())
        self.calls(("call", 1, 2), (7, 8), (), 1, (7, 8, None, None, None))
        self.calls(("call", 1, 2), (5, 7, 8), (5,), 1, (7, 8, None, None, None))
        self.calls(("call", 1, 1), (5, 7, 8), (5, 7), 1, (8, None, None, None, None))
        self.calls(("call", 1, 0), (5, 7, 8), (5, 7, 8), 1, (None,) * 5)
        self.calls(("call", 2, 3), (1, None, cell(0), True), (1,), 2, (None, cell(0), True))
        self.calls(("call", 1, 5), (1, 2, 3, 4, 5), (), 1, (1, 2, 3, 4, 5))

    def test_applies(self):
        put = (("pair", 1, None), ("fn", 1, ()), ("fn", 1, (6,)), ("fn", 2, (None, cell(0))), ("fn", 1, (1, 2, 3, 4)))
        self.calls(("apply",), (cell(1), 9), (), 1, (9, None, None, None, None), put=put)
        self.calls(("apply",), (5, cell(1), 9), (5,), 1, (9, None, None, None, None), put=put)
        self.calls(("apply",), (cell(2), True), (), 1, (6, True, None, None, None), put=put)
        self.calls(("apply",), (3, 4, cell(3), cell(1)), (3, 4), 2, (None, cell(0), cell(1)), put=put)
        self.calls(("apply",), (3, cell(4), None), (3,), 1, (1, 2, 3, 4, None), put=put)
        self.calls(("apply",), (cell(1), cell(2)), (), 1, (cell(2), None, None, None, None), put=put)

    def test_kinds_of_python(self):
        told = called(BLOCKS, cells_of(("fn", 1, (1,))), (0, 0, (), (cell(0), 2)), ("apply",))
        self.assertEqual([type(told), type(told[0]), type(told[1])], [tuple] * 3)
        for frame in told:
            self.assertEqual([type(part) for part in frame], [int, int, tuple, tuple])

    def test_many_values(self):
        blocks = [(4000, 4100, (("back",),))]
        stack = tuple(range(5000))
        self.assertEqual(called(blocks, cells_of(), (0, 2, (), stack), ("call", 0, 4000)),
                         ((0, 3, (), stack[:1000]), (0, 0, stack[1000:] + (None,) * 100, ())))
        cells = cells_of(("fn", 0, stack[:3999]))
        self.assertEqual(called(blocks, cells, (0, 2, (), (cell(0), -1)), ("apply",)),
                         ((0, 3, (), ()), (0, 0, stack[:3999] + (-1,) + (None,) * 100, ())))


if __name__ == "__main__":
    unittest.main()
