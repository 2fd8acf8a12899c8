"""Points 8 and 9: help, lots that hinder one another, kind shares."""

import itertools
import random
import unittest

from tests.helpers import MARKS, MOST, all_rows, fitting, mixed, rising_lots, told_help
from wishesrise import helping
from wishesrise.fitting import fits
from wishesrise.helping import help_of, hindering, is_kind, most_hindering
from wishesrise.shares import Shares

AB = ("a", "b")


def told_helps(shares):
    """Each two rising lots with their help, in their order: all pairs gone through."""
    lots = [(lot, sum(1 << int(row, 2) for row in lot)) for lot in rising_lots(len(shares.marks))]
    sums = {bits: sum(shares.numbers[int(row, 2)] for row in lot) for lot, bits in lots}
    total = sum(shares.numbers)
    return [(total * sums[a & b] - sums[a] * sums[b], one, two)
            for (one, a), (two, b) in itertools.combinations_with_replacement(lots, 2)]


class Help(unittest.TestCase):
    def test_by_hand(self):
        like = Shares(AB, (2, 1, 1, 2))
        self.assertEqual(help_of(like, ("10", "11"), ("01", "11")), 3)
        self.assertEqual(help_of(like, ("10", "11"), ("00", "01")), -9)
        self.assertEqual(help_of(like, ("10",), ("10",)), 5)
        self.assertEqual(help_of(Shares(AB, (1, 1, 1, 1)), ("10", "11"), ("01", "11")), 0)
        self.assertEqual(help_of(Shares(("a",), (MOST, MOST)), ("1",), ("1",)), MOST * MOST)
        self.assertEqual(help_of(Shares(("a",), (MOST, MOST)), ("0",), ("1",)), -MOST * MOST)
        self.assertEqual(help_of(shares=like, one=("10", "11"), two=("01", "11")), 3)
        self.assertEqual(help_of(two=("10",), one=("00", "10", "11"), shares=like), 1 * 6 - 5)

    def test_against_sums(self):
        chance = random.Random(1)
        for size in (1, 2, 3, 4):
            for shares in mixed(2, size, 8):
                for _ in range(8):
                    one, two = [tuple(row for row in all_rows(size) if chance.random() < 0.5) for _ in "ab"]
                    found = help_of(shares, one, two)
                    self.assertIs(found.__class__, int)
                    self.assertEqual(found, told_help(shares, one, two))
                    self.assertEqual(found, help_of(shares, two, one))

    def test_the_empty_lot_and_the_lot_of_all_rows(self):
        for size in (1, 2, 3, 4):
            rows = tuple(all_rows(size))
            for shares in mixed(3, size, 2):
                for lot in [(), rows, rows[:1], rows[1:], rows[-1:]]:
                    self.assertEqual(help_of(shares, (), lot), 0)
                    self.assertEqual(help_of(shares, rows, lot), 0)
                    self.assertEqual(help_of(shares, lot, ()), 0)
                    self.assertEqual(help_of(shares, lot, rows), 0)
                    self.assertGreaterEqual(help_of(shares, lot, lot), 0)


class Hindering(unittest.TestCase):
    def test_by_hand(self):
        odd = Shares(AB, (1, 2, 2, 1))
        self.assertEqual(hindering(odd), (("01", "11"), ("10", "11")))
        self.assertEqual(most_hindering(odd), (("01", "11"), ("10", "11")))
        self.assertIs(is_kind(odd), False)
        self.assertIs(is_kind(Shares(AB, (2, 1, 1, 2))), True)
        self.assertIsNone(hindering(shares=Shares(AB, (2, 1, 1, 2))))
        self.assertIsNone(most_hindering(shares=Shares(AB, (2, 1, 1, 2))))
        self.assertIs(is_kind(shares=odd), False)
        self.assertEqual(hindering(shares=odd), most_hindering(shares=odd))

    def test_no_help_is_no_hindrance(self):
        for numbers in ((1, 1, 1, 1), (6, 2, 3, 1), (MOST, MOST, MOST, MOST), (1, 0, 0, 0), (0, 0, 0, 1), (0, 1, 0, 1)):
            self.assertIsNone(hindering(Shares(AB, numbers)))
            self.assertIsNone(most_hindering(Shares(AB, numbers)))
            self.assertIs(is_kind(Shares(AB, numbers)), True)

    def test_by_a_single_one(self):
        even = (MOST - 1) * (MOST - 1)
        self.assertEqual((MOST - 2) * MOST, even - 1)
        self.assertIs(is_kind(Shares(AB, (MOST - 2, MOST - 1, MOST - 1, MOST))), False)
        self.assertIs(is_kind(Shares(AB, (MOST - 1, MOST - 1, MOST - 1, MOST - 1))), True)
        self.assertIs(is_kind(Shares(AB, (MOST - 1, MOST - 2, MOST, MOST - 1))), True)

    def test_one_mark_is_always_kind(self):
        for shares in mixed(4, 1, 20):
            self.assertIsNone(hindering(shares))
            self.assertIs(is_kind(shares), True)

    def against_all_pairs(self, shares):
        told = [triple for triple in told_helps(shares) if triple[0] < 0]
        first, most = hindering(shares), most_hindering(shares)
        self.assertIs(is_kind(shares), told == [])
        if not told:
            self.assertIsNone(first)
            self.assertIsNone(most)
            return 0
        self.assertEqual(first, told[0][1:])
        least = min(worth for worth, _, _ in told)
        self.assertEqual(most, next(triple[1:] for triple in told if triple[0] == least))
        for pair in (first, most):
            self.assertIs(pair.__class__, tuple)
            self.assertLess(help_of(shares, *pair), 0)
            self.assertLessEqual(pair[0], pair[1])
        self.assertEqual(help_of(shares, *most), least)
        return 1

    def test_up_to_three_marks(self):
        for size in (1, 2, 3):
            self.assertGreater(sum(self.against_all_pairs(shares) for shares in mixed(5, size, 40)), 40 * (size > 1) - 1)

    def test_four_marks(self):
        self.assertGreater(sum(self.against_all_pairs(shares) for shares in mixed(6, 4, 6)), 10)

    def test_all_small_numbers_over_two_marks(self):
        for numbers in itertools.product(range(4), repeat=4):
            if any(numbers):
                self.against_all_pairs(Shares(AB, numbers))

    def test_of_several_least_ones_the_first(self):
        # All three marks are alike here, so that each pair of them hinders as much.
        shares = Shares(MARKS[:3], (0, 1, 1, 0, 1, 0, 0, 0))
        told = told_helps(shares)
        least = min(told)[0]
        self.assertGreater(len([triple for triple in told if triple[0] == least]), 2)
        self.against_all_pairs(shares)


class Kind(unittest.TestCase):
    def test_what_fits_is_kind(self):
        for size in (1, 2, 3, 4):
            for shares in fitting(7, 10, size):
                self.assertIs(is_kind(shares), True)

    def test_not_all_kind_ones_fit(self):
        kind = [shares for shares in mixed(8, 3, 60) if is_kind(shares)]
        self.assertTrue([shares for shares in kind if not fits(shares)])

    def test_the_same_again(self):
        for shares in mixed(9, 3, 2):
            before = (shares.marks, shares.numbers, shares.total)
            self.assertEqual(hindering(shares), hindering(Shares(shares.marks, shares.numbers)))
            self.assertEqual(most_hindering(shares), most_hindering(shares))
            self.assertEqual((shares.marks, shares.numbers, shares.total), before)

    def test_each_function_is_defined_here(self):
        for name in ("help_of", "hindering", "is_kind", "most_hindering"):
            self.assertEqual(getattr(helping, name).__module__, "wishesrise.helping")


if __name__ == "__main__":
    unittest.main()
