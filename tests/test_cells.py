"""Point 19: cells, and the plain values of what they keep."""

import unittest

from helpers import cell
from speakmill.cells import Cells, plain


def listed(cells, values, end=None):
    """Puts a list of values, the last one first; tells its value."""
    for value in reversed(values):
        end = cells.put(("pair", value, end))
    return end


class CellsTest(unittest.TestCase):
    def holds(self, cells, *wanted):
        """Asks for all cells in every way, and changes what is told."""
        self.assertEqual(cells.many(), len(wanted))
        self.assertIs(type(cells.many()), int)
        for n, one in enumerate(wanted):
            self.assertEqual(repr(cells.at(cell(n))), repr(one))
        told = cells.told()
        self.assertIs(type(told), list)
        self.assertEqual(repr(told), repr(list(wanted)))
        told.append(("pair", 9, None))
        if len(told) > 1:
            told[0] = None
        self.assertEqual(repr(cells.told()), repr(list(wanted)))
        self.assertEqual(cells.many(), len(wanted))
        self.assertIsNot(cells.told(), cells.told())

    def test_none_at_first(self):
        self.holds(Cells())

    def test_pairs_and_fns(self):
        cells = Cells()
        put = []
        for n, one in enumerate((
                ("pair", 1, None), ("fn", 3, ()), ("pair", True, cell(0)), ("fn", 0, (1, False, None, cell(2))),
                ("pair", 1, None), ("pair", None, None), ("pair", cell(1), cell(2)), ("fn", 7, (cell(3),)))):
            value = cells.put(one)
            self.assertEqual(repr(value), repr(cell(n)))
            put.append(one)
            self.holds(cells, *put)

    def test_any_head_and_tail_by_hand(self):
        cells = Cells()
        put = []
        values = (0, -1, 10 ** 40, True, False, None, cell(0), cell(5), cell(900))
        for head in values:
            for tail in values:
                put.append(("pair", head, tail))
                self.assertEqual(cells.put(put[-1]), cell(len(put) - 1))
        self.holds(cells, *put)

    def test_two_that_are_alike_are_two(self):
        cells = Cells()
        one, other = cells.put(("pair", 1, None)), cells.put(("pair", 1, None))
        self.assertEqual((one, other), (cell(0), cell(1)))
        fn, more = cells.put(("fn", 1, ())), cells.put(("fn", 1, ()))
        self.assertEqual((fn, more), (cell(2), cell(3)))
        self.assertEqual(cells.many(), 4)

    def test_two_beside_each_other(self):
        one, other = Cells(), Cells()
        self.assertEqual(one.put(("pair", 1, None)), cell(0))
        self.holds(one, ("pair", 1, None))
        self.holds(other)
        self.assertEqual(other.put(("fn", 2, (5,))), cell(0))
        self.assertEqual(one.put(("fn", 4, ())), cell(1))
        self.holds(one, ("pair", 1, None), ("fn", 4, ()))
        self.holds(other, ("fn", 2, (5,)))

    def test_what_was_told_stays(self):
        cells = Cells()
        cells.put(("pair", 1, None))
        told = cells.told()
        cells.put(("pair", 2, None))
        self.assertEqual(told, [("pair", 1, None)])

    def test_many_thousand(self):
        cells = Cells()
        for n in range(20000):
            self.assertEqual(cells.put(("pair", n, None)), cell(n))
        self.assertEqual(cells.many(), 20000)
        self.assertEqual(cells.at(cell(12345)), ("pair", 12345, None))


class PlainTest(unittest.TestCase):
    def told(self, cells, value, wanted):
        kept = repr(cells.told())
        for many in range(2):
            self.assertEqual(repr(plain(cells, value)), repr(wanted))
        self.assertEqual(repr(cells.told()), kept)

    def test_numbers_and_truths(self):
        for value in (0, 1, -1, 7, 10 ** 40, -10 ** 40, True, False):
            self.told(Cells(), value, value)

    def test_lists(self):
        cells = Cells()
        self.told(cells, None, [])
        self.told(cells, listed(cells, [5]), [5])
        self.told(cells, listed(cells, [1, 2, 3]), [1, 2, 3])
        self.told(cells, listed(cells, [True, False]), [True, False])
        self.told(cells, listed(cells, [1, 1, 1]), [1, 1, 1])

    def test_the_head_and_the_tail_of_a_list(self):
        cells = Cells()
        value = listed(cells, [4, 5, 6])
        self.told(cells, cells.at(value)[1], 4)
        self.told(cells, cells.at(value)[2], [5, 6])
        self.told(cells, cells.at(cells.at(cells.at(value)[2])[2])[2], [])

    def test_lists_within_lists(self):
        cells = Cells()
        self.told(cells, listed(cells, [None]), [[]])
        self.told(cells, listed(cells, [None, None]), [[], []])
        inner = [listed(cells, [1, 2]), None, listed(cells, [3])]
        self.told(cells, listed(cells, inner), [[1, 2], [], [3]])
        self.told(cells, listed(cells, [listed(cells, inner), None]), [[[1, 2], [], [3]], []])
        self.told(cells, listed(cells, [listed(cells, [True]), listed(cells, [False])]), [[True], [False]])

    def test_lists_that_share(self):
        cells = Cells()
        tail = listed(cells, [8, 9])
        one, other = listed(cells, [1], tail), listed(cells, [2, 3], tail)
        self.told(cells, one, [1, 8, 9])
        self.told(cells, other, [2, 3, 8, 9])
        self.told(cells, listed(cells, [one, other, tail, one]), [[1, 8, 9], [2, 3, 8, 9], [8, 9], [1, 8, 9]])

    def test_a_list_that_stands_twice_is_told_as_two(self):
        cells = Cells()
        inner = listed(cells, [1])
        told = plain(cells, listed(cells, [inner, inner]))
        told[0].append(2)
        self.assertEqual(told, [[1, 2], [1]])

    def test_other_cells_stand_between(self):
        cells = Cells()
        cells.put(("fn", 3, (1, 2)))
        end = cells.put(("pair", 2, None))
        cells.put(("fn", 0, (end,)))
        cells.put(("pair", 99, end))
        self.told(cells, cells.put(("pair", 1, end)), [1, 2])

    def test_numbers_of_cells_in_any_order(self):
        cells = Cells()
        cells.put(("pair", 1, cell(2)))
        cells.put(("pair", 3, None))
        cells.put(("pair", 2, cell(1)))
        self.told(cells, cell(0), [1, 2, 3])

    def test_long_lists(self):
        cells = Cells()
        wanted = list(range(50000))
        value = listed(cells, wanted)
        self.assertEqual(plain(cells, value), wanted)
        self.assertEqual(plain(cells, listed(cells, [value, None, value])), [wanted, [], wanted])

    def test_deep_lists(self):
        cells = Cells()
        value = None
        for many in range(20000):
            value = cells.put(("pair", value, None))
        told = plain(cells, value)
        deep = 0
        while told:
            self.assertEqual(len(told), 1)
            told = told[0]
            deep += 1
        self.assertEqual(deep, 20000)
        self.assertEqual(told, [])

    def test_each_list_is_the_askers_own(self):
        cells = Cells()
        value = listed(cells, [listed(cells, [1, 2]), None])
        told = plain(cells, value)
        told[0].append(3)
        told[1].append(4)
        told.append(5)
        self.told(cells, value, [[1, 2], []])
        none = plain(cells, None)
        none.append(1)
        self.told(cells, None, [])


if __name__ == "__main__":
    unittest.main()
