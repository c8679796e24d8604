"""The constants of [3]."""

import unittest

from balconyrow.limits import MOST_LOTS, MOST_ROWS


class Limits(unittest.TestCase):
    def test_both_constants(self):
        self.assertEqual((MOST_LOTS, MOST_ROWS), (100, 500))
        self.assertEqual((type(MOST_LOTS), type(MOST_ROWS)), (int, int))


if __name__ == "__main__":
    unittest.main()
