"""Point 22: which rows are reached, where jumps lead, and rows with jumps that go straight."""

import itertools
import unittest

from helpers import seeded
from speakmill.jumps import goals, reached, threaded, without
from tracing import any_rows, goal_of, reached_by_steps, skip, thread_faults, unless, way_through

BACK, ADD, NOT = ("back",), ("add",), ("not",)
PUSH1, PUSH2, PUSH3 = ("push", 1), ("push", 2), ("push", 3)
LOAD = ("load", 0)

# One if within the other, in its a and in its b.
WITHIN = (LOAD, unless(8), LOAD, unless(2), PUSH1, skip(1), PUSH2, ADD, NOT, skip(4), LOAD, unless(1), PUSH3, NOT, BACK)


class GoalsTest(unittest.TestCase):
    def tells(self, rows, expected):
        for many in range(2):
            told = goals(rows)
            self.assertEqual((type(told), told), (list, expected))
            told.append(7)

    def test_without_jumps(self):
        self.tells((BACK,), [None])
        self.tells((PUSH1, ("call", 1, 1), ("close", 2, 3), ("keep", 4), BACK), [None] * 5)

    def test_one_jump(self):
        self.tells((skip(0), BACK), [1, None])
        self.tells((LOAD, unless(0), BACK), [None, 2, None])
        self.tells((LOAD, unless(2), PUSH1, BACK, PUSH2, BACK), [None, 4, None, None, None, None])
        self.tells((skip(3), PUSH1, PUSH1, PUSH1, BACK), [4, None, None, None, None])

    def test_several(self):
        none = None
        self.tells(WITHIN, [none, 10, none, 6, none, 7, none, none, none, 14, none, 13, none, none, none])
        self.tells((LOAD, unless(2), PUSH1, skip(1), PUSH2, LOAD, unless(1), NOT, BACK),
                   [none, 4, none, 5, none, none, 8, none, none])

    def test_that_go_on_at_the_same_row(self):
        self.tells((unless(4), skip(3), unless(2), skip(1), PUSH1, BACK), [5, 5, 5, 5, None, None])

    def test_of_rows_that_are_not_reached(self):
        self.tells((PUSH1, BACK, unless(1), skip(0), BACK), [None, None, 4, 4, None])


class ReachedTest(unittest.TestCase):
    def tells(self, rows, expected):
        for many in range(2):
            told = reached(rows)
            self.assertEqual((type(told), told), (list, expected))
            told.append(7)

    def test_all(self):
        for rows in ((BACK,), (PUSH1, BACK), (skip(0), BACK), (LOAD, unless(0), BACK), WITHIN,
                     (LOAD, unless(2), PUSH1, BACK, PUSH2, BACK)):
            self.tells(rows, list(range(len(rows))))

    def test_behind_a_skip(self):
        self.tells((skip(1), PUSH1, BACK), [0, 2])
        self.tells((PUSH1, skip(3), NOT, NOT, NOT, NOT, BACK), [0, 1, 5, 6])

    def test_behind_a_back(self):
        self.tells((PUSH1, BACK, PUSH2, BACK), [0, 1])
        self.tells((LOAD, unless(2), PUSH1, BACK, PUSH1, BACK, PUSH1, NOT, BACK), [0, 1, 2, 3, 4, 5])

    def test_to_which_an_unreached_jump_alone_leads(self):
        self.tells((PUSH1, BACK, skip(1), NOT, PUSH2, BACK), [0, 1])
        self.tells((PUSH1, skip(3), unless(1), skip(0), PUSH2, BACK), [0, 1, 5])
        # The rows 2 and 3 are not reached, so the one at which both go on is not either.
        self.tells((PUSH1, skip(4), unless(2), skip(1), BACK, PUSH3, BACK), [0, 1, 6])

    def test_to_which_several_lead(self):
        self.tells((LOAD, unless(2), PUSH1, skip(2), PUSH2, skip(0), BACK), [0, 1, 2, 3, 4, 5, 6])
        self.tells((skip(2), unless(2), PUSH1, LOAD, unless(1), NOT, BACK), [0, 3, 4, 5, 6])

    def test_an_unless_leads_both_ways_whatever_is_pushed(self):
        self.tells((("push", True), unless(2), PUSH1, BACK, PUSH2, BACK), [0, 1, 2, 3, 4, 5])


class WithoutTest(unittest.TestCase):
    def tells(self, rows, gone, expected):
        kept = repr((rows, gone))
        for some in (gone, gone[::-1], gone + gone):
            told = without(rows, some)
            self.assertEqual((type(told), repr(told)), (tuple, repr(expected)))
        self.assertEqual(repr((rows, gone)), kept)

    def test_none(self):
        for rows in ((BACK,), WITHIN, (skip(1), PUSH1, BACK)):
            self.tells(rows, [], rows)

    def test_one_without_jumps(self):
        self.tells((PUSH1, PUSH2, BACK), [0], (PUSH2, BACK))
        self.tells((PUSH1, PUSH2, BACK), [1], (PUSH1, BACK))

    def test_ahead_of_a_jump(self):
        self.tells((PUSH1, NOT, skip(1), PUSH2, BACK), [0], (NOT, skip(1), PUSH2, BACK))
        self.tells((PUSH1, NOT, unless(1), PUSH2, BACK), [0, 1], (unless(1), PUSH2, BACK))

    def test_within_a_jump(self):
        self.tells((skip(2), PUSH1, PUSH2, BACK), [1], (skip(1), PUSH2, BACK))
        self.tells((unless(2), PUSH1, PUSH2, BACK), [2], (unless(1), PUSH1, BACK))
        self.tells((unless(2), PUSH1, PUSH2, BACK), [1, 2], (unless(0), BACK))

    def test_at_the_row_on_which_it_goes_on(self):
        self.tells((skip(1), PUSH1, PUSH2, PUSH3, BACK), [2], (skip(1), PUSH1, PUSH3, BACK))
        self.tells((unless(1), PUSH1, PUSH2, PUSH3, BACK), [2, 3], (unless(1), PUSH1, BACK))
        self.tells((unless(1), PUSH1, PUSH2, PUSH3, NOT, BACK), [2, 4], (unless(1), PUSH1, PUSH3, BACK))
        self.tells((skip(0), PUSH1, BACK), [1], (skip(0), BACK))

    def test_behind_the_row_on_which_it_goes_on(self):
        self.tells((skip(1), PUSH1, PUSH2, PUSH3, BACK), [3], (skip(1), PUSH1, PUSH2, BACK))

    def test_the_jump_itself(self):
        self.tells((PUSH1, skip(1), PUSH2, BACK), [1], (PUSH1, PUSH2, BACK))
        self.tells((unless(3), unless(2), PUSH1, PUSH2, BACK), [1], (unless(2), PUSH1, PUSH2, BACK))
        self.tells((unless(3), unless(2), PUSH1, PUSH2, BACK), [0], (unless(2), PUSH1, PUSH2, BACK))

    def test_several_jumps_one_within_the_other(self):
        self.tells(WITHIN, [4, 8, 12], (LOAD, unless(6), LOAD, unless(1), skip(1), PUSH2, ADD, skip(3), LOAD, unless(0),
                                        NOT, BACK))

    def test_all_but_the_last(self):
        self.tells(WITHIN, list(range(len(WITHIN) - 1)), (BACK,))

    def test_of_rows_that_are_not_reached(self):
        self.tells((PUSH1, BACK, skip(1), PUSH2, PUSH3, BACK), [3, 4], (PUSH1, BACK, skip(0), BACK))

    def test_any(self):
        """Each row that is left is told by its old number."""
        chance = seeded(2200)
        for many in range(500):
            rows = any_rows(chance, 12)
            gone = [number for number in range(len(rows) - 1) if chance.random() < 0.3]
            left = [number for number in range(len(rows)) if number not in gone]
            told = without(rows, gone)
            self.assertEqual(len(told), len(left))
            for at, (row, number) in enumerate(zip(told, left)):
                if goal_of(rows, number) is None:
                    self.assertEqual(repr(row), repr(rows[number]))
                else:
                    self.assertEqual(row[0], rows[number][0])
                    wanted = [other for other in left if other >= goal_of(rows, number)][0]
                    self.assertEqual(left[goal_of(told, at)], wanted)


class ThreadedTest(unittest.TestCase):
    def tells(self, rows, expected):
        kept = repr(rows)
        for many in range(2):
            told = threaded(rows)
            self.assertEqual((type(told), repr(told)), (tuple, repr(expected)))
        self.assertEqual(repr(threaded(told)), repr(told))
        self.assertEqual(repr(rows), kept)

    def stays(self, rows):
        self.tells(rows, rows)

    def test_what_stays(self):
        self.stays((BACK,))
        self.stays((PUSH1, PUSH2, ADD, BACK))
        self.stays((LOAD, unless(2), PUSH1, skip(1), PUSH2, NOT, BACK))
        # An unless takes a value, and may go on at a back.
        self.stays((LOAD, LOAD, unless(0), BACK))
        self.stays((LOAD, LOAD, unless(1), NOT, BACK))
        # Nothing is reckoned here.
        self.stays((("push", True), unless(2), PUSH1, BACK, PUSH2, BACK))

    def test_a_skip_of_0(self):
        self.tells((PUSH1, skip(0), NOT, BACK), (PUSH1, NOT, BACK))
        self.tells((skip(0), PUSH1, BACK), (PUSH1, BACK))
        self.tells((PUSH1, skip(0), BACK), (PUSH1, BACK))
        self.tells((PUSH1, skip(0), skip(0), skip(0), NOT, BACK), (PUSH1, NOT, BACK))

    def test_a_jump_over_a_skip_of_0(self):
        self.tells((LOAD, unless(3), PUSH1, skip(0), NOT, PUSH2, BACK), (LOAD, unless(2), PUSH1, NOT, PUSH2, BACK))

    def test_a_jump_to_a_skip_of_0(self):
        self.tells((LOAD, unless(1), NOT, skip(0), ADD, BACK), (LOAD, unless(1), NOT, ADD, BACK))

    def test_a_skip_over_what_is_not_reached(self):
        self.tells((PUSH1, skip(2), PUSH2, PUSH3, NOT, BACK), (PUSH1, NOT, BACK))
        # What it leaps over is reached by another one, and stays.
        self.stays((LOAD, unless(2), PUSH1, skip(1), PUSH2, NOT, BACK))

    def test_a_chain_of_skips(self):
        self.tells((LOAD, unless(2), PUSH1, skip(1), NOT, skip(1), PUSH3, skip(1), PUSH3, ADD, BACK),
                   (LOAD, unless(2), PUSH1, skip(1), NOT, ADD, BACK))
        self.tells((skip(0), skip(1), PUSH1, skip(1), PUSH2, skip(0), PUSH3, BACK), (PUSH3, BACK))

    def test_a_skip_that_goes_on_at_a_back(self):
        self.tells((LOAD, unless(2), PUSH1, skip(1), PUSH2, BACK), (LOAD, unless(2), PUSH1, BACK, PUSH2, BACK))
        # By way of another one.
        self.tells((LOAD, unless(2), PUSH1, skip(1), PUSH2, skip(1), PUSH3, BACK),
                   (LOAD, unless(2), PUSH1, BACK, PUSH2, BACK))
        self.tells((PUSH1, skip(3), PUSH2, PUSH3, NOT, BACK), (PUSH1, BACK))

    def test_an_unless_that_goes_on_at_a_skip(self):
        self.tells((LOAD, unless(2), PUSH1, NOT, skip(2), PUSH2, NOT, ADD, BACK), (LOAD, unless(2), PUSH1, NOT, ADD, BACK))
        self.tells((LOAD, LOAD, unless(2), PUSH1, BACK, skip(2), PUSH2, NOT, skip(1), PUSH3, ADD, BACK),
                   (LOAD, LOAD, unless(2), PUSH1, BACK, ADD, BACK))
        # An unless never becomes a back.
        self.tells((LOAD, LOAD, unless(1), NOT, skip(1), NOT, BACK), (LOAD, LOAD, unless(2), NOT, BACK, BACK))

    def test_an_unless_of_0(self):
        self.tells((LOAD, unless(0), skip(1), PUSH1, PUSH2, BACK), (LOAD, unless(0), PUSH2, BACK))

    def test_what_comes_to_be_unreached(self):
        # The skip between is only come to by a jump that goes on farther.
        self.tells((LOAD, unless(1), BACK, skip(1), NOT, PUSH1, BACK), (LOAD, unless(1), BACK, PUSH1, BACK))
        self.tells((LOAD, unless(2), PUSH1, skip(1), PUSH2, skip(2), NOT, NOT, PUSH3, BACK),
                   (LOAD, unless(2), PUSH1, skip(1), PUSH2, PUSH3, BACK))
        # Both skips behind the unless go on at one row.
        self.tells((LOAD, unless(1), skip(1), skip(0), PUSH1, BACK), (LOAD, unless(0), PUSH1, BACK))

    def test_rows_that_are_not_reached(self):
        self.tells((PUSH1, BACK, PUSH2, BACK), (PUSH1, BACK))
        self.tells((PUSH1, BACK, skip(1), BACK, PUSH2, BACK), (PUSH1, BACK))
        self.tells((LOAD, unless(3), PUSH1, BACK, NOT, PUSH2, BACK), (LOAD, unless(2), PUSH1, BACK, PUSH2, BACK))
        # The last row may be one of them.
        self.tells((skip(1), BACK, PUSH1, BACK, BACK, PUSH2, BACK), (PUSH1, BACK))

    def test_a_long_chain(self):
        many = 5000
        self.tells((skip(0),) * many + (PUSH1, BACK), (PUSH1, BACK))
        self.tells((unless(many + 1), PUSH1) + (skip(0),) * many + (PUSH2, BACK), (unless(1), PUSH1, PUSH2, BACK))
        self.tells((skip(1), NOT) * many + (PUSH1, BACK), (PUSH1, BACK))

    def test_any(self):
        chance = seeded(2201)
        words = []
        for many in range(2500):
            rows = any_rows(chance, 4 + many % 20)
            told = threaded(rows)
            words += [word for word, number in thread_faults(rows)]
            self.assertEqual(thread_faults(told), [], msg=rows)
            self.assertEqual(told[-1], BACK)
            self.assertLessEqual(len(told), len(rows))
            self.assertEqual(repr(threaded(told)), repr(told))
            for finds in itertools.product((True, False), repeat=4):
                done, rows_done = way_through(rows, finds)
                done_now, rows_done_now = way_through(told, finds)
                self.assertEqual(done_now, done, msg=rows)
                self.assertLessEqual(rows_done_now, rows_done, msg=rows)
        for word in ("unreached", "nought", "skip to skip", "skip to back", "unless to skip"):
            self.assertGreater(words.count(word), 50, msg=word)


class AnyRowsTest(unittest.TestCase):
    def test_goals_and_reached(self):
        chance = seeded(2202)
        for many in range(1000):
            rows = any_rows(chance, 20)
            self.assertEqual(goals(rows), [goal_of(rows, number) for number in range(len(rows))])
            self.assertEqual(reached(rows), sorted(reached_by_steps(rows)))

    def test_many_rows(self):
        many = 5000
        rows = (unless(1), skip(0)) * many + (BACK,)
        self.assertEqual(reached(rows), list(range(len(rows))))
        self.assertEqual(without(rows, list(range(0, 2 * many, 2))), (skip(0),) * many + (BACK,))
        self.assertEqual(without(rows, list(range(1, 2 * many, 2))), (unless(0),) * many + (BACK,))


if __name__ == "__main__":
    unittest.main()
