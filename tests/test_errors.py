"""The interface of tierounds/errors.py."""

import unittest

from samples import KINDS
from tierounds import errors


class Errors(unittest.TestCase):
    def test_tie_error_stands_straight_under_value_error(self):
        self.assertEqual(errors.TieError.__bases__, (ValueError,))

    def test_fourteen_kinds_each_straight_under_tie_error(self):
        self.assertEqual(len(set(KINDS)), 14)
        for kind in KINDS:
            self.assertEqual(kind.__bases__, (errors.TieError,), kind)

    def test_no_other_errors(self):
        found = {value for value in vars(errors).values() if isinstance(value, type)}
        self.assertEqual(found, {errors.TieError, *KINDS})


if __name__ == "__main__":
    unittest.main()
