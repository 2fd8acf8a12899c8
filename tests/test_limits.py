"""The limits."""

import unittest

from wishesrise import limits


class Limits(unittest.TestCase):
    def test_each_value(self):
        told = {"MOST_NAME": 8, "MOST_MARKS": 4, "MOST_NUMBER": 1000000000000, "MOST_TIES": 12, "MOST_FACTOR": 10}
        for name, value in told.items():
            self.assertEqual(getattr(limits, name), value, name)
            self.assertIs(getattr(limits, name).__class__, int, name)


if __name__ == "__main__":
    unittest.main()
