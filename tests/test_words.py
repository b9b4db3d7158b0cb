"""Point 2: texts and their words."""

import itertools
import re
import unittest

from helpers import TOLD_WORDS, refuses
from speakmill.words import words

MARKS = ("(", ")", ",", "=>", "=", "+", "-", "*", "/", "<", ":", "!", "[", "]")
NUMBERS = ("0", "7", "10", "123456789012")
NAMES = ("a", "z9", "define", "ifx", "in1", "abcdefgh", "a1234567")
GAPS = ("", " ", "\t", "\n", " \t\n\n ")

# The point's own words once more, as patterns: what stands together, and which of that is let by.
TOGETHER = re.compile(r"[a-z0-9]+|=>|[(),=+\-*/<:!\[\]]|[ \t\n]+|[^a-z0-9]", re.DOTALL)
LET_BY = re.compile(r"0|[1-9][0-9]{0,11}|[a-z][a-z0-9]{0,7}|=>|[(),=+\-*/<:!\[\]]|[ \t\n]+")


def told_by_patterns(text):
    found = TOGETHER.findall(text)
    if len(text) > 4000 or not all(LET_BY.fullmatch(one) for one in found):
        return None
    return [one for one in found if one.strip(" \t\n")]


def is_long(word):
    return word not in MARKS


class WordTest(unittest.TestCase):
    def refused(self, text):
        refuses(self, words, text)

    def test_each_word_alone(self):
        for word in MARKS + TOLD_WORDS + NUMBERS + NAMES:
            for gap in GAPS:
                self.assertEqual(words(gap + word + gap), [word])

    def test_each_word_beside_each_other_one(self):
        every = MARKS + TOLD_WORDS + NUMBERS + NAMES
        for one, other in itertools.product(every, every):
            for gap in GAPS[1:]:
                self.assertEqual(words(one + gap + other), [one, other])
            if not (is_long(one) and is_long(other)):
                self.assertEqual(words(one + other), [one, other])

    def test_long_words_stand_together_as_far_as_they_go(self):
        self.assertEqual(words("headx"), ["headx"])
        self.assertEqual(words("x1 x 1"), ["x1", "x", "1"])
        self.assertEqual(words("notnot"), ["notnot"])

    def test_arrow_is_one_word_wherever_it_stands(self):
        self.assertEqual(words("=>"), ["=>"])
        self.assertEqual(words("==>"), ["=", "=>"])
        self.assertEqual(words("=>="), ["=>", "="])
        self.assertEqual(words("=>=>"), ["=>", "=>"])
        self.assertEqual(words("x=>y"), ["x", "=>", "y"])
        self.assertEqual(words("<=>"), ["<", "=>"])

    def test_a_lone_end_of_an_arrow(self):
        for text in (">", "= >", "=\t>", "=\n>", "=>>", "->", "<>", "x > y", ">="):
            self.refused(text)

    def test_numbers(self):
        for word in ("0", "1", "9", "100000000000", "999999999999", "101"):
            self.assertEqual(words(word), [word])
        for word in ("1000000000000", "9" * 13, "9" * 3000, "00", "01", "007", "0" * 12, "0" * 13):
            self.refused(word)

    def test_names(self):
        for word in ("a", "z", "abcdefgh", "a0000000", "zzzzzzzz", "b2b"):
            self.assertEqual(words(word), [word])
        for word in ("abcdefghi", "a00000000", "a" * 3000, "definein1"):
            self.refused(word)

    def test_a_figure_first_and_a_letter_in_it(self):
        for word in ("1a", "0x", "12def", "9a9", "0a0", "123456789012a"):
            self.refused(word)
        for letter, figure in itertools.product("abcdefghijklmnopqrstuvwxyz", "0123456789"):
            self.refused(figure + letter)
            self.assertEqual(words(letter + figure), [letter + figure])

    def test_signs_of_no_word(self):
        marks = "".join(MARKS)
        for number in list(range(0x180)) + [0x0661, 0x2028, 0x3000, 0xff11, 0xff41, 0x1d7ce, 0x1f600]:
            sign = chr(number)
            if sign in " \t\nabcdefghijklmnopqrstuvwxyz0123456789" or (sign in marks and sign != ">"):
                self.assertEqual(words(sign), [sign] if sign.strip() else [])
            else:
                for text in (sign, "x" + sign, sign + "x", "1" + sign, "def f() = 1" + sign):
                    self.refused(text)

    def test_nothing_and_gaps_alone(self):
        for text in ("", " ", "\t", "\n", " \t\n" * 9):
            self.assertEqual(words(text), [])

    def test_length(self):
        for many in (3999, 4000):
            self.assertEqual(words(" " * many), [])
            self.assertEqual(words("(" * many), ["("] * many)
            self.assertEqual(words("x" + "\n" * (many - 2) + "y"), ["x", "y"])
            self.assertEqual(words("=" + "=>" * ((many - 1) // 2)), ["="] + ["=>"] * ((many - 1) // 2))
        for text in (" " * 4001, "(" * 4001, "\n" * 4001, "x" + " " * 4000, "=>" * 2001, " " * 9999):
            self.refused(text)

    def test_all_short_texts(self):
        for many in range(6):
            for signs in itertools.product("a0 =>(", repeat=many):
                self.check_by_patterns("".join(signs))
        for many in range(4):
            for signs in itertools.product("b10\t\n\r =>),+-*/<:![]%A~_.\"", repeat=many):
                self.check_by_patterns("".join(signs))

    def check_by_patterns(self, text):
        wanted = told_by_patterns(text)
        if wanted is None:
            self.refused(text)
        else:
            self.assertEqual(words(text), wanted, msg=repr(text))

    def test_each_list_is_the_askers_own(self):
        text = "def f() = 1"
        first = words(text)
        kept = list(first)
        first.clear()
        self.assertEqual(words(text), kept)
        self.assertTrue(all(isinstance(word, str) for word in kept))


if __name__ == "__main__":
    unittest.main()
