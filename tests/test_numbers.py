"""Point 13: two numbers under a sign."""

import unittest

from helpers import seeded
from speakmill.numbers import GREATEST, two_told

GREAT, NOUGHT = ("refused", "great"), ("refused", "nought")


class NumbersTest(unittest.TestCase):
    def check(self, sign, a, b, told):
        # True is 1 to Python, but not to this program: so the texts are held to one another too.
        self.assertEqual(repr(two_told(sign, a, b)), repr(told), msg=(sign, a, b))

    def test_greatest(self):
        self.assertEqual(GREATEST, 10 ** 40)
        self.assertIs(type(GREATEST), int)

    def test_small_numbers_of_both_signs(self):
        for a in range(-9, 10):
            for b in range(-9, 10):
                self.check("+", a, b, ("value", a + b))
                self.check("-", a, b, ("value", a - b))
                self.check("*", a, b, ("value", a * b))
                self.check("<", a, b, ("value", a < b))
                self.check("=", a, b, ("value", a == b))

    def test_quotients(self):
        for a, b, told in ((7, 2, 3), (-7, 2, -4), (7, -2, -4), (-7, -2, 3), (6, 2, 3), (-6, 2, -3), (6, -2, -3),
                           (-6, -2, 3), (1, 2, 0), (-1, 2, -1), (1, -2, -1), (-1, -2, 0), (0, 5, 0), (0, -5, 0)):
            self.check("/", a, b, ("value", told))
        for a in range(-30, 31):
            for b in list(range(-9, 0)) + list(range(1, 10)):
                told = two_told("/", a, b)[1]
                self.assertIs(type(told), int)
                rest = a - told * b
                self.assertTrue(0 <= rest < b or b < rest <= 0, msg=(a, b))

    def test_by_nought(self):
        for a in (0, 1, -1, 7, -7, GREATEST, -GREATEST):
            self.check("/", a, 0, NOUGHT)
            self.check("*", a, 0, ("value", 0))

    def test_quotients_of_great_numbers(self):
        for a, b, told in ((GREATEST, 1, GREATEST), (GREATEST, -1, -GREATEST), (-GREATEST, 1, -GREATEST),
                           (-GREATEST, -1, GREATEST), (GREATEST, GREATEST, 1), (-GREATEST, GREATEST, -1),
                           (GREATEST - 1, GREATEST, 0), (1 - GREATEST, GREATEST, -1), (1, GREATEST, 0),
                           (-1, GREATEST, -1), (1, -GREATEST, -1), (GREATEST, 3, 10 ** 40 // 3),
                           (-GREATEST, 3, -(10 ** 40 // 3) - 1), (GREATEST, 7, (10 ** 40 - 4) // 7)):
            self.check("/", a, b, ("value", told))

    def test_sums_at_the_greatest(self):
        for a, b in ((GREATEST, 0), (GREATEST - 1, 1), (1, GREATEST - 1), (GREATEST + 1, -1), (5 * 10 ** 39,) * 2):
            self.check("+", a, b, ("value", GREATEST))
            self.check("+", -a, -b, ("value", -GREATEST))
            self.check("+", a, b + 1, GREAT)
            self.check("+", -a, -b - 1, GREAT)
            self.check("+", a + 1, b, GREAT)
        self.check("+", GREATEST, GREATEST, GREAT)
        self.check("+", GREATEST, -GREATEST, ("value", 0))

    def test_differences_at_the_greatest(self):
        for a, b in ((GREATEST, 0), (GREATEST - 1, -1), (0, -GREATEST), (1, 1 - GREATEST), (GREATEST + 1, 1)):
            self.check("-", a, b, ("value", GREATEST))
            self.check("-", b, a, ("value", -GREATEST))
            self.check("-", a, b - 1, GREAT)
            self.check("-", b - 1, a, GREAT)
        self.check("-", GREATEST, GREATEST, ("value", 0))
        self.check("-", GREATEST, -GREATEST, GREAT)

    def test_products_at_the_greatest(self):
        for a, b in ((GREATEST, 1), (1, GREATEST), (10 ** 20, 10 ** 20), (2 * 10 ** 20, 5 * 10 ** 19), (10, 10 ** 39)):
            self.check("*", a, b, ("value", GREATEST))
            self.check("*", -a, -b, ("value", GREATEST))
            self.check("*", -a, b, ("value", -GREATEST))
            self.check("*", a, -b, ("value", -GREATEST))
        # The divisors of the first number beyond: 10 ** 40 + 1 is 17 times another one.
        for a, b in ((17, (10 ** 40 + 1) // 17), (GREATEST + 1, 1), (10 ** 20 + 1, 10 ** 20), (GREATEST, 2)):
            self.assertGreater(a * b, GREATEST)
            self.check("*", a, b, GREAT)
            self.check("*", -a, b, GREAT)
            self.check("*", a, -b, GREAT)
            self.check("*", -a, -b, GREAT)
        self.assertEqual((10 ** 40 + 1) % 17, 0)
        self.check("*", GREATEST, GREATEST, GREAT)

    def test_truths(self):
        for a, b in ((GREATEST, GREATEST), (-GREATEST, GREATEST), (GREATEST, GREATEST + 1), (0, 0), (-1, 1), (1, -1)):
            for sign, told in (("<", a < b), ("=", a == b)):
                self.assertIs(two_told(sign, a, b)[1], told)
                self.assertIs(two_told(sign, b, a)[1], b < a if sign == "<" else told)

    def test_what_is_handed_in_may_lie_beyond(self):
        self.check("/", 10 ** 42, 1, ("value", 10 ** 42))
        self.check("/", 10 ** 42, 1000, ("value", 10 ** 39))
        self.check("<", 10 ** 41, 10 ** 42, ("value", True))
        self.check("=", 10 ** 42, 10 ** 42, ("value", True))
        self.check("-", 10 ** 42, 10 ** 42, ("value", 0))
        self.check("*", 10 ** 42, 0, ("value", 0))

    def test_any_numbers(self):
        chance = seeded(13)
        great = 0
        for many in range(3000):
            a = chance.randint(-10 ** chance.randint(1, 40), 10 ** chance.randint(1, 40))
            b = chance.randint(-10 ** chance.randint(1, 40), 10 ** chance.randint(1, 40))
            for sign, outcome in (("+", a + b), ("-", a - b), ("*", a * b)):
                is_great = outcome > 10 ** 40 or outcome < -10 ** 40
                great += is_great
                self.check(sign, a, b, GREAT if is_great else ("value", outcome))
            self.check("/", a, b, NOUGHT if b == 0 else ("value", (a - a % b) // b))
        self.assertGreater(great, 500)


if __name__ == "__main__":
    unittest.main()
