"""Point 1: what is handed in stays as it is, and what is told is the asker's own, all over the program."""

import unittest

from helpers import cells_of
from speakmill.binding import Bonds
from speakmill.cells import Cells, plain
from speakmill.checking import kinded
from speakmill.collecting import swept
from speakmill.compiling import compiled, fns_in, rows_of
from speakmill.folding import folded
from speakmill.frames import called, entered, own_done
from speakmill.jumps import goals, reached, threaded, without
from speakmill.kinds import kind_text
from speakmill.machine import Machine, run
from speakmill.numbers import two_told
from speakmill.reading import read
from speakmill.reckoning import begun, onward, reckoned
from speakmill.running import answer, checked, plain_answer, run_told, told_kind
from speakmill.scopes import free_names, placed, placed_parts
from speakmill.shortening import shortened
from speakmill.showing import shown, shown_term
from speakmill.trees import depth_of, parts_of, size_of
from speakmill.words import words

TEXT = "def main(n) = let x = n : 2 : [] in f((fn y => y : x) ! (1 + 2)) : x : [] def f(x) = if yes then x else tail x"
BODY = read(TEXT)[0][3]


def blocks():
    return compiled(placed(read(TEXT)))[0]


def rows():
    return blocks()[0][2]


def placed_body():
    return placed(read(TEXT))[0][0][2]


def cells():
    return cells_of(("pair", 1, None), ("fn", 2, (("cell", 0), 5)), ("pair", ("cell", 0), None), ("pair", 4, None))


FRAME = (0, 3, (7, None), (("cell", 1), ("cell", 0)))

# What is asked, and what makes the things that are handed in.
ASKED = (
    (words, lambda: (TEXT,)),
    (read, lambda: (TEXT,)),
    (parts_of, lambda: (BODY,)),
    (depth_of, lambda: (BODY,)),
    (size_of, lambda: (BODY,)),
    (shown, lambda: (read(TEXT),)),
    (shown_term, lambda: (BODY,)),
    (placed, lambda: (read(TEXT),)),
    (placed_parts, lambda: (placed_body(),)),
    (free_names, lambda: (BODY,)),
    (kind_text, lambda: (("fn", ("list", ("number",)), ("truth",)),)),
    (kinded, lambda: (placed(read(TEXT)),)),
    (two_told, lambda: ("+", 1, 2)),
    (begun, lambda: (read(TEXT), [3])),
    (onward, lambda: (read(TEXT), begun(read(TEXT), [3]), 10)),
    (reckoned, lambda: (read(TEXT), [3], 10)),
    (fns_in, lambda: (placed_body(),)),
    (rows_of, lambda: (placed_body(), 2)),
    (compiled, lambda: (placed(read(TEXT)),)),
    (plain, lambda: (cells(), ("cell", 2))),
    (swept, lambda: (cells(), [("cell", 2), 5, None, ("cell", 1)])),
    (entered, lambda: (blocks(), 0, [3])),
    (own_done, lambda: (cells(), FRAME, ("load", 0))),
    (called, lambda: (blocks(), cells(), FRAME, ("apply",))),
    (called, lambda: (blocks(), cells(), FRAME, ("call", 1, 1))),
    (run, lambda: (blocks(), 0, [3], 10, [4, 2, 9])),
    (goals, lambda: (rows(),)),
    (reached, lambda: (rows(),)),
    (without, lambda: (rows(), [4, 0])),
    (threaded, lambda: (rows(),)),
    (folded, lambda: (rows(),)),
    (shortened, lambda: (blocks(),)),
    (checked, lambda: (TEXT,)),
    (told_kind, lambda: (TEXT,)),
    (answer, lambda: (TEXT, [3], 10, True, [4, 2, 9])),
    (run_told, lambda: (TEXT, [3], 10, False, [4, 2, 9])),
    (plain_answer, lambda: (TEXT, [3], 10)),
)


def seen(thing):
    """A text in which all of it can be seen, and in which 1 and True are two."""
    if isinstance(thing, Cells):
        return "cells " + repr(thing.told())
    if isinstance(thing, (tuple, list)):
        return type(thing).__name__ + "(" + ", ".join(seen(part) for part in thing) + ")"
    return repr(thing)


def spoil(thing):
    """Changes every list in it, and puts more into Cells."""
    if isinstance(thing, Cells):
        thing.put(("pair", 99, None))
    if isinstance(thing, (tuple, list)):
        for part in thing:
            spoil(part)
    if isinstance(thing, list):
        thing.clear()
        thing.extend([77, ["spoilt"]])


class WholeTest(unittest.TestCase):
    def test_what_is_handed_in_stays(self):
        for do, make in ASKED:
            given = make()
            kept = seen(given)
            do(*given)
            self.assertEqual(seen(given), kept, msg=do.__name__)

    def test_what_is_told_is_the_askers_own(self):
        for do, make in ASKED:
            given = make()
            kept = seen(do(*given))
            told = do(*given)
            other = do(*given)
            self.assertEqual((seen(told), seen(other)), (kept, kept), msg=do.__name__)
            spoil(told)
            self.assertEqual(seen(other), kept, msg=do.__name__)
            self.assertEqual(seen(do(*given)), kept, msg=do.__name__)
            self.assertEqual(seen(do(*make())), kept, msg=do.__name__)
            self.assertEqual(seen(given), seen(make()), msg=do.__name__)

    def test_what_is_done_later_to_what_was_handed_in(self):
        for do, make in ASKED:
            given = make()
            told = do(*given)
            kept = seen(told)
            spoil(given)
            self.assertEqual(seen(told), kept, msg=do.__name__)
            self.assertEqual(seen(do(*make())), kept, msg=do.__name__)

    def test_lists_are_told_where_they_are_promised(self):
        for do, make in ASKED:
            if do in (words, parts_of, placed_parts, free_names, kinded, goals, reached, shortened):
                self.assertIs(type(do(*make())), list, msg=do.__name__)
            if do in (read, placed, begun, onward, reckoned, rows_of, compiled, swept, entered, own_done, called, run,
                      without, threaded, folded, checked, answer, run_told, plain_answer):
                self.assertIs(type(do(*make())), tuple, msg=do.__name__)

    def test_whole_numbers_and_truths_are_two(self):
        for text, told in (("def main(n) = n : 1 : 0 : []", "('value', [1, 1, 0])"),
                           ("def main(n) = (n = 1) : yes : no : []", "('value', [True, True, False])"),
                           ("def main(n) = 1 < 2", "('value', True)"), ("def main(n) = 2 - 1", "('value', 1)")):
            for is_short in (True, False):
                self.assertEqual(repr(answer(text, [1], 0, is_short, [])), told)
            self.assertEqual(repr(plain_answer(text, [1], 0)), told)


class ObjectsTest(unittest.TestCase):
    def test_a_machine(self):
        given, numbers = blocks(), [3]
        machine, other = Machine(given, 0, numbers, 10), Machine(blocks(), 0, [3], 10)
        kept = seen((given, numbers))
        for many in range(5):
            machine.step()
            other.step()
        self.assertEqual(seen((given, numbers)), kept)
        spoil(given)
        spoil(numbers)
        is_going = True
        while is_going:
            for told in (machine.frames(), machine.cells(), machine.answer()):
                spoil(told)
            self.assertEqual(machine.collect(), other.collect())
            self.assertEqual(seen((machine.frames(), machine.cells(), machine.answer())),
                             seen((other.frames(), other.cells(), other.answer())))
            is_going = machine.step()
            self.assertIs(other.step(), is_going)
        self.assertEqual(machine.answer(), ("value", [[3, 3, 2], [3, 2]]))

    def test_a_machine_beside_another(self):
        given = blocks()
        one, other = Machine(given, 0, [3], 10), Machine(given, 0, [4], 10)
        while one.step():
            other.step()
            other.collect()
        self.assertEqual((one.answer(), other.answer()),
                         (("value", [[3, 3, 2], [3, 2]]), ("value", [[3, 4, 2], [4, 2]])))

    def test_cells(self):
        one, other = cells(), cells()
        spoil(one.told())
        self.assertEqual(seen(one), seen(other))
        kept, values = swept(one, [("cell", 2)])
        kept.put(("pair", 8, 8))
        self.assertEqual(seen(one), seen(other))
        self.assertEqual(one.put(("pair", 9, 9)), ("cell", 4))
        self.assertEqual(other.many(), 4)

    def test_bonds(self):
        one, other = Bonds(), Bonds()
        a, b = one.fresh(), other.fresh()
        one.tie(a, ("truth",))
        self.assertEqual((one.final(("list", a)), other.final(("list", b))),
                         (("list", ("truth",)), ("list", ("number",))))
        # What was told stays as it was when more is tied.
        c = one.fresh()
        told = one.final(("list", c))
        one.tie(c, ("truth",))
        self.assertEqual((told, one.final(("list", c))), (("list", ("number",)), ("list", ("truth",))))


if __name__ == "__main__":
    unittest.main()
