"""The error classes."""

import unittest

from speakmill.errors import BadInput, BadKind, BadName, BadText, MillError

REFUSALS = (BadText, BadName, BadKind, BadInput)


class ErrorTest(unittest.TestCase):
    def test_every_refusal_is_a_mill_error_and_a_value_error(self):
        for refusal in REFUSALS:
            self.assertEqual(refusal.__bases__, (MillError,))
            for taken_as in (refusal, MillError, ValueError):
                with self.assertRaises(taken_as):
                    raise refusal("words")
        self.assertEqual(MillError.__bases__, (ValueError,))

    def test_none_stands_under_another(self):
        for one in REFUSALS:
            for other in REFUSALS:
                self.assertEqual(issubclass(one, other), one is other)


if __name__ == "__main__":
    unittest.main()
