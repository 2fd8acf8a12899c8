"""Sending numbers from upper rows down to lower ones, by itself: what couplings are made of."""

import itertools
import unittest

from tests.helpers import all_rows, is_over
from wishesrise.couplings import sent_down


class SentDown(unittest.TestCase):
    def test_by_hand(self):
        self.assertEqual(sent_down(1, [0, 3], [2, 1]), {("1", "0"): 2, ("1", "1"): 1})
        self.assertIsNone(sent_down(1, [1, 0], [0, 1]))
        self.assertEqual(sent_down(1, [0, 0], [0, 0]), {})

    def test_a_row_makes_room_for_another_one(self):
        # "01" fills "00" first, which "10" needs, as it has no other row to go to.
        found = sent_down(2, [0, 1, 1, 0], [1, 1, 0, 0])
        self.assertEqual({pair: number for pair, number in found.items() if number}, {("01", "01"): 1, ("10", "00"): 1})

    def test_rows_that_make_room_one_after_the_other(self):
        # Each of three rows has to leave the row that it filled first to the next one.
        has = {"001": 1, "011": 1, "010": 0, "110": 1, "111": 0, "100": 1, "000": 0, "101": 0}
        asks = {"000": 1, "001": 1, "010": 1, "110": 1, "011": 0, "100": 0, "101": 0, "111": 0}
        self.checked(3, [has[row] for row in all_rows(3)], [asks[row] for row in all_rows(3)], True)

    def checked(self, size, has, asks, possible):
        found = sent_down(size, has, asks)
        if not possible:
            self.assertIsNone(found)
            return
        rows = all_rows(size)
        self.assertTrue(all(is_over(x, y) and number >= 0 for (x, y), number in found.items()))
        self.assertEqual([sum(number for (x, _), number in found.items() if x == row) for row in rows], list(has))
        self.assertEqual([sum(number for (_, y), number in found.items() if y == row) for row in rows], list(asks))

    def test_all_small_numbers_over_two_marks(self):
        tables = [table for table in itertools.product(range(4), repeat=4) if sum(table) == 3]
        for has, asks in itertools.product(tables, repeat=2):
            uppers = [row for row, number in zip(all_rows(2), has) for _ in range(number)]
            lowers = [row for row, number in zip(all_rows(2), asks) for _ in range(number)]
            possible = any(all(map(is_over, uppers, order)) for order in itertools.permutations(lowers))
            self.checked(2, has, asks, possible)


if __name__ == "__main__":
    unittest.main()
