"""Tests of blockdeal.errors: the interface, and what [2] says of refusals."""

import unittest

from blockdeal.errors import DealError, NoDeed, NoLine, NoRoom, NoText, NotTheirs

WITHOUT_ANYTHING = (NoDeed, NotTheirs, NoRoom, NoLine)


class Refusals(unittest.TestCase):
    def test_each_stands_straight_under_deal_error(self):
        for refusal in WITHOUT_ANYTHING + (NoText,):
            self.assertEqual(refusal.__bases__, (DealError,))
        self.assertEqual(DealError.__bases__, (ValueError,))

    def test_made_without_anything(self):
        for refusal in WITHOUT_ANYTHING:
            with self.assertRaises(refusal) as caught:
                raise refusal()
            self.assertIs(type(caught.exception), refusal)

    def test_none_is_taken_for_another(self):
        made = [refusal() for refusal in WITHOUT_ANYTHING] + [NoText(0)]
        for place, one in enumerate(made):
            for other, refusal in enumerate(WITHOUT_ANYTHING + (NoText,)):
                self.assertIs(isinstance(one, refusal), place == other)
            self.assertIsInstance(one, DealError)
            self.assertIsInstance(one, ValueError)

    def test_the_row_of_no_text(self):
        for row in (0, 1, 7, 2000):
            self.assertEqual(NoText(row).row, row)
            with self.assertRaises(DealError) as caught:
                raise NoText(row)
            self.assertEqual(caught.exception.row, row)


if __name__ == "__main__":
    unittest.main()
