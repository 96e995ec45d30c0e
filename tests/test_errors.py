"""The refusals as the interface lists them."""

import unittest

from remadehere.errors import BadRow, BadSize, Busy, NoSpare, NoText, NoVersion

BASES = {
    BadRow: ValueError,
    BadSize: ValueError,
    NoSpare: LookupError,
    NoVersion: KeyError,
    Busy: RuntimeError,
    NoText: ValueError,
}


class Errors(unittest.TestCase):
    def test_each_stands_under_the_class_of_python_that_is_listed(self):
        for error, base in BASES.items():
            self.assertEqual(error.__bases__, (base,))

    def test_none_stands_under_another_one(self):
        for error in BASES:
            for other in BASES:
                self.assertEqual(issubclass(error, other), error is other)

    def test_fields(self):
        for number in (0, 7, 10 ** 59, -3):
            self.assertEqual(vars(BadRow(number))["row"], number)
            self.assertEqual(vars(NoSpare(number))["need"], number)

    def test_they_are_raised_and_caught(self):
        with self.assertRaises(BadRow) as caught:
            raise BadRow(3)
        self.assertEqual(caught.exception.row, 3)
        with self.assertRaises(NoSpare) as caught:
            raise NoSpare(1)
        self.assertEqual(caught.exception.need, 1)
        for error in (BadSize, NoVersion, Busy, NoText):
            with self.assertRaises(error):
                raise error("why")


if __name__ == "__main__":
    unittest.main()
