import unittest

from sumtimes.errors import BadText, NoPlace, NoRow, NoSuch, RowError

LEAVES = (NoRow, NoPlace, NoSuch, BadText)


class ErrorTree(unittest.TestCase):
    def test_row_error_stands_under_value_error(self):
        self.assertEqual(RowError.__bases__, (ValueError,))

    def test_each_refusal_stands_straight_under_row_error(self):
        for leaf in LEAVES:
            self.assertEqual(leaf.__bases__, (RowError,), leaf)

    def test_none_stands_under_another_one(self):
        for leaf in LEAVES:
            for other in LEAVES:
                self.assertEqual(issubclass(leaf, other), leaf.__name__ == other.__name__)

    def test_names(self):
        names = [error.__name__ for error in LEAVES]
        self.assertEqual(names, ["NoRow", "NoPlace", "NoSuch", "BadText"])
        self.assertEqual(RowError.__name__, "RowError")

    def test_each_can_be_raised_and_taken_as_value_error(self):
        for error in LEAVES + (RowError,):
            with self.assertRaises(ValueError):
                raise error("words")


if __name__ == "__main__":
    unittest.main()
