"""0.5: the refusals."""

import unittest

from askorder.errors import (
    AskError, BadBallot, BadNumber, BadOrder, BadParts, BadRow, BadTree, Even, NotAlike, NothingLeft, NotTop,
    TooMany, Twice, Unknown,
)

REFUSALS = [
    BadBallot, Even, BadOrder, BadTree, NotTop, BadParts, NotAlike, BadRow, BadNumber, Twice, Unknown, TooMany,
    NothingLeft,
]


class Refusals(unittest.TestCase):
    def test_there_are_thirteen_unlike_ones(self):
        self.assertEqual(len(set(REFUSALS)), 13)
        self.assertNotIn(AskError, REFUSALS)

    def test_ask_error_stands_under_value_error(self):
        self.assertEqual(AskError.__bases__, (ValueError,))
        self.assertIsInstance(AskError("words"), ValueError)

    def test_each_stands_straight_under_ask_error(self):
        for refusal in REFUSALS:
            with self.subTest(refusal=refusal.__name__):
                self.assertEqual(refusal.__bases__, (AskError,))

    def test_each_can_be_made_of_one_text_and_is_none_of_the_others(self):
        for refusal in REFUSALS:
            made = refusal("words")
            with self.subTest(refusal=refusal.__name__):
                self.assertIsInstance(made, AskError)
                self.assertIsInstance(made, ValueError)
                self.assertEqual([other for other in REFUSALS if isinstance(made, other)], [refusal])

    def test_each_can_be_raised_and_taken_by_its_own_name(self):
        for refusal in REFUSALS:
            with self.subTest(refusal=refusal.__name__):
                with self.assertRaises(refusal):
                    raise refusal("words")

    def test_each_bears_its_own_name(self):
        names = "BadBallot Even BadOrder BadTree NotTop BadParts NotAlike BadRow BadNumber Twice Unknown TooMany NothingLeft"
        self.assertEqual([refusal.__name__ for refusal in REFUSALS], names.split())


if __name__ == "__main__":
    unittest.main()
