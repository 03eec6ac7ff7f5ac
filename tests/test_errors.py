import unittest

from holdword.errors import HoldError, NoLetter, NoPile, NoRow, NoTown

REFUSALS = [NoTown, NoPile, NoLetter, NoRow]


class Errors(unittest.TestCase):
    def test_hold_error_is_a_value_error(self):
        self.assertTrue(issubclass(HoldError, ValueError))

    def test_row_is_none_where_none_is_told(self):
        for refusal in [HoldError] + REFUSALS:
            self.assertIsNone(refusal().row)

    def test_row_is_the_told_one(self):
        for refusal in [HoldError] + REFUSALS:
            self.assertEqual(refusal(7).row, 7)
            self.assertEqual(refusal(row=1).row, 1)
            self.assertIsNone(refusal(None).row)

    def test_each_error_has_a_row_of_its_own(self):
        first = NoTown(3)
        second = NoTown(4)
        self.assertEqual((first.row, second.row), (3, 4))

    def test_refusals_stand_straight_under_hold_error(self):
        for refusal in REFUSALS:
            self.assertEqual(refusal.__bases__, (HoldError,))

    def test_no_refusal_stands_under_another(self):
        for one in REFUSALS:
            for other in REFUSALS:
                self.assertEqual(issubclass(one, other), one == other)

    def test_refusals_are_taken_by_name(self):
        for refusal in REFUSALS:
            with self.assertRaises(HoldError) as caught:
                raise refusal(2)
            self.assertEqual(caught.exception.row, 2)


if __name__ == "__main__":
    unittest.main()
