"""Point 21: which cells are kept, by swept."""

import unittest

from helpers import cell, cells_of, seeded
from speakmill.cells import Cells, plain
from speakmill.collecting import swept


def parts(one):
    return list(one[1:]) if one[0] == "pair" else list(one[2])


def reached_by(cells, values):
    """The numbers of the cells that can be come to, by going round until there are no more."""
    all_told = cells.told()
    found = {value[1] for value in values if isinstance(value, tuple)}
    while True:
        more = {value[1] for n in found for value in parts(all_told[n]) if isinstance(value, tuple)}
        if more <= found:
            return found
        found |= more


class SweptTest(unittest.TestCase):
    def swept(self, cells, values):
        """What is told, held to all that the point says but for how many there are."""
        kept, handed = repr(cells.told()), repr(values)
        told = swept(cells, values)
        self.assertIs(type(told), tuple)
        new, now = told
        self.assertIsInstance(new, Cells)
        self.assertIs(type(now), list)
        self.assertIsNot(new, cells)
        self.assertIsNot(now, values)
        self.assertEqual(new.many(), len(new.told()))
        self.assertEqual([new.at(cell(n)) for n in range(new.many())], new.told())
        self.alike(cells, list(values), new, now)
        self.assertEqual((repr(cells.told()), repr(values)), (kept, handed))
        again, values_again = swept(cells, values)
        self.assertEqual((repr(again.told()), repr(values_again)), (repr(new.told()), repr(now)))
        return new, now

    def alike(self, old, values, new, now):
        """Each old number has one new one, and the other way round; all of the new ones are come to."""
        self.assertEqual(len(values), len(now))
        there, back = {}, {}
        waiting = list(zip(values, now))
        while waiting:
            one, other = waiting.pop()
            if not isinstance(one, tuple):
                self.assertEqual(repr(one), repr(other))
                continue
            self.assertEqual((other[0], type(other[1]), len(other)), ("cell", int, 2))
            self.assertTrue(0 <= other[1] < new.many())
            if one[1] in there or other[1] in back:
                self.assertEqual((there.get(one[1]), back.get(other[1])), (other[1], one[1]))
                continue
            there[one[1]], back[other[1]] = other[1], one[1]
            was, is_now = old.at(one), new.at(other)
            self.assertEqual((was[0], len(was)), (is_now[0], len(is_now)))
            if was[0] == "fn":
                self.assertEqual((was[1], type(is_now[2])), (is_now[1], tuple))
            self.assertEqual(len(parts(was)), len(parts(is_now)))
            waiting.extend(zip(parts(was), parts(is_now)))
        self.assertEqual(new.many(), len(back))
        self.assertEqual(set(there), reached_by(old, values))

    def keeps(self, many, cells, values):
        new, now = self.swept(cells, values)
        self.assertEqual(new.many(), many)
        second, values_now = self.swept(new, now)
        self.assertEqual(second.many(), many)
        return new, now

    def test_nothing(self):
        self.keeps(0, cells_of(), [])
        self.keeps(0, cells_of(), [1, True, False, None, -10 ** 40])
        self.keeps(0, cells_of(("pair", 1, None), ("fn", 2, (cell(0),))), [])
        self.keeps(0, cells_of(("pair", 1, None)), [0, False, None])

    def test_pairs(self):
        cells = cells_of(("pair", 1, None), ("pair", 2, cell(0)), ("pair", 3, cell(1)), ("pair", 4, cell(1)))
        for n, many in ((0, 1), (1, 2), (2, 3), (3, 3)):
            self.keeps(many, cells, [cell(n)])
        self.keeps(4, cells, [cell(2), cell(3)])
        self.keeps(4, cells, [cell(3), cell(2)])

    def test_by_way_of_heads(self):
        cells = cells_of(("pair", 9, None), ("pair", 1, None), ("pair", cell(1), None), ("pair", cell(2), cell(2)))
        self.keeps(3, cells, [cell(3)])

    def test_fns(self):
        cells = cells_of(("fn", 5, ()), ("pair", 1, None), ("fn", 6, (1, cell(1), None, True, cell(0))),
                   ("pair", cell(2), None), ("fn", 7, (cell(3),)))
        for n, many in ((0, 1), (1, 1), (2, 3), (3, 4), (4, 5)):
            self.keeps(many, cells, [cell(n)])
        self.assertEqual(self.keeps(1, cells, [cell(0)])[0].told(), [("fn", 5, ())])

    # An fn's block is a number that may be that of a cell, too.
    def test_the_block_of_an_fn_stays(self):
        cells = cells_of(("pair", 0, None), ("pair", 1, None), ("fn", 1, (1,)), ("fn", 0, (cell(2),)))
        new, now = self.keeps(2, cells, [cell(3)])
        self.assertEqual(sorted(one[1] for one in new.told()), [0, 1])

    def test_what_is_come_to_twice_is_kept_once(self):
        cells = cells_of(("pair", 1, None), ("pair", cell(0), cell(0)), ("fn", 3, (cell(0), cell(1), cell(1))),
                   ("pair", cell(2), cell(1)))
        new, now = self.keeps(4, cells, [cell(3), cell(3), cell(0), 5, cell(2)])
        self.assertEqual(now[0], now[1])
        self.assertEqual(len(set(now)), 4)

    def test_two_that_are_alike_stay_two(self):
        cells = cells_of(("pair", 1, None), ("pair", 1, None), ("fn", 2, (3,)), ("fn", 2, (3,)))
        new, now = self.keeps(4, cells, [cell(0), cell(1), cell(2), cell(3)])
        self.assertEqual(len(set(now)), 4)
        self.keeps(3, cells_of(("pair", 1, None), ("pair", 1, None), ("pair", cell(0), cell(1))), [cell(2)])

    def test_truths_are_no_numbers(self):
        cells = cells_of(("pair", True, None), ("pair", 1, None), ("fn", 0, (False, 0)), ("pair", 0, True))
        new, now = self.keeps(4, cells, [True, 1, cell(0), cell(1), False, 0, cell(2), cell(3)])
        self.assertEqual(repr([now[at] for at in (0, 1, 4, 5)]), "[True, 1, False, 0]")

    def test_any_head_and_tail_by_hand(self):
        self.keeps(1, cells_of(("pair", 1, 2)), [cell(0)])
        self.keeps(2, cells_of(("pair", None, True), ("pair", 7, None), ("pair", cell(0), -1)), [cell(2)])
        self.keeps(2, cells_of(("fn", 1, ()), ("pair", None, cell(0))), [cell(1)])

    def test_cells_that_lead_to_later_ones_and_to_themselves(self):
        self.keeps(2, cells_of(("pair", 1, cell(2)), ("pair", 5, None), ("pair", 2, None)), [cell(0)])
        self.keeps(1, cells_of(("pair", 5, None), ("pair", cell(1), cell(1))), [cell(1)])
        round_about = cells_of(("fn", 1, (cell(2),)), ("pair", 8, None), ("pair", cell(3), 4), ("pair", cell(0), None))
        for n in (0, 2, 3):
            self.keeps(3, round_about, [cell(n)])
        self.keeps(4, round_about, [cell(3), cell(1), cell(2)])

    def test_values_in_a_tuple(self):
        new, now = self.keeps(1, cells_of(("pair", 4, None), ("pair", 5, None)), (cell(1), 3))
        self.assertEqual((new.told(), now), ([("pair", 5, None)], [cell(0), 3]))

    def test_lists_read_as_they_did(self):
        cells = cells_of()
        values = []
        for many in range(10):
            value = None
            for item in range(many):
                cells.put(("pair", -1, value))
                value = cells.put(("pair", item, value))
            values.append(value)
        new, now = self.keeps(45, cells, values)
        self.assertEqual([plain(new, value) for value in now], [list(range(many))[::-1] for many in range(10)])

    def test_a_long_list(self):
        cells = cells_of(("pair", 0, None))
        value = None
        for item in range(50000):
            value = cells.put(("pair", item, value))
        new, now = swept(cells, [value])
        self.assertEqual(new.many(), 50000)
        self.assertEqual(plain(new, now[0]), list(range(50000))[::-1])

    def test_long_by_heads_and_by_fns(self):
        cells = cells_of(("pair", 0, None))
        value = None
        for item in range(10000):
            value = cells.put(("pair", value, item))
            value = cells.put(("fn", item, (1, value)))
        new, now = swept(cells, [value])
        self.assertEqual(new.many(), 20000)
        value = now[0]
        for item in reversed(range(10000)):
            self.assertEqual(new.at(value)[:2], ("fn", item))
            value = new.at(value)[2][1]
            self.assertEqual(new.at(value)[2], item)
            value = new.at(value)[1]
        self.assertIsNone(value)

    def test_the_old_ones_stay_when_the_new_ones_are_added_to(self):
        cells = cells_of(("pair", 1, None), ("pair", 2, cell(0)), ("pair", 3, None))
        values = [cell(1), 7]
        new, now = swept(cells, values)
        self.assertEqual(new.put(("pair", 8, now[0])), cell(2))
        now.append(9)
        now[0] = None
        self.assertEqual(cells.told(), [("pair", 1, None), ("pair", 2, cell(0)), ("pair", 3, None)])
        self.assertEqual(values, [cell(1), 7])
        cells.put(("pair", 4, None))
        values.append(5)
        values[0] = 6
        self.assertEqual(new.many(), 3)
        self.assertEqual(len(now), 3)

    def test_any_cells(self):
        chance = seeded(21)
        gone = 0
        for many in range(500):
            count = chance.randint(0, 12)
            plain_ones = [0, 1, True, False, None]
            choices = plain_ones + [cell(n) for n in range(count)]
            cells = cells_of(*[
                ("pair", chance.choice(choices), chance.choice(choices)) if chance.random() < 0.6
                else ("fn", chance.randrange(4), tuple(chance.choices(choices, k=chance.randint(0, 3))))
                for one in range(count)])
            values = chance.choices(choices, k=chance.randint(0, 4))
            new = self.keeps(len(reached_by(cells, values)), cells, values)[0]
            gone += cells.many() - new.many()
        self.assertGreater(gone, 500)


if __name__ == "__main__":
    unittest.main()
