"""Point 6: rows, their order, above, or, and; and the helpers that speak of rows alone."""

import itertools
import unittest

from wishesrise.rows import (
    and_of, bits_of, every_row, is_least, lies_above, or_of, place_of, rows_above, rows_below, unrisen_row,
)


def all_signs(size):
    return tuple("".join(signs) for signs in itertools.product("01", repeat=size))


class Rows(unittest.TestCase):
    def test_every_row_in_the_order_of_strings(self):
        self.assertEqual(every_row(1), ("0", "1"))
        self.assertEqual(every_row(2), ("00", "01", "10", "11"))
        for size in (1, 2, 3, 4):
            self.assertEqual(every_row(size), all_signs(size))
            self.assertEqual(list(every_row(size)), sorted(every_row(size)))

    def test_places(self):
        for size in (1, 2, 3, 4):
            self.assertEqual([place_of(row) for row in every_row(size)], list(range(2 ** size)))

    def test_above_or_and(self):
        for size in (1, 2, 3, 4):
            for one, two in itertools.product(all_signs(size), repeat=2):
                a, b = int(one, 2), int(two, 2)
                self.assertIs(lies_above(one, two), a | b == a)
                self.assertEqual(or_of(one, two), format(a | b, f"0{size}b"))
                self.assertEqual(and_of(one, two), format(a & b, f"0{size}b"))
                self.assertEqual(one in rows_above(two), a | b == a)
                self.assertEqual(two in rows_below(one), a | b == a)

    def test_bits(self):
        self.assertEqual([bits_of(()), bits_of(("00",)), bits_of(("01", "11")), bits_of(("1",))], [0, 1, 10, 2])
        self.assertEqual(bits_of(("01", "11")) & bits_of(("10", "11")), bits_of(("11",)))
        self.assertEqual(bits_of(every_row(4)), 2 ** 16 - 1)

    def test_some_by_hand(self):
        self.assertTrue(lies_above("0110", "0110"))
        self.assertTrue(lies_above("0111", "0110"))
        self.assertFalse(lies_above("0110", "0111"))
        self.assertFalse(lies_above("10", "01"))
        self.assertEqual(or_of("0110", "1010"), "1110")
        self.assertEqual(and_of("0110", "1010"), "0010")
        self.assertEqual(rows_above("010"), ("010", "011", "110", "111"))
        self.assertEqual(rows_below("101"), ("000", "001", "100", "101"))

    def test_unrisen_and_least(self):
        self.assertIsNone(unrisen_row(()))
        self.assertIsNone(unrisen_row(("01", "11")))
        self.assertEqual(unrisen_row(("01", "10")), "01")
        self.assertTrue(is_least("01", ("01", "10", "11")))
        self.assertFalse(is_least("11", ("01", "10", "11")))


if __name__ == "__main__":
    unittest.main()
