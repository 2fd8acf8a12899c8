"""Point 9: shares that fit, rows that speak against it, climbing, and the room that a number has."""

import itertools
import unittest

from tests.helpers import MARKS, MOST, all_rows, fitting, full, is_over, lower_and, mixed, some, touched, upper_or
from wishesrise import fitting as module
from wishesrise.fitting import climbs, failing, fits, near_failing, room
from wishesrise.shares import Shares

AB = ("a", "b")


def told_failing(numbers):
    """All pairs of rows that speak against these numbers, which are told by row, in their order."""
    return [(x, y) for x in numbers for y in numbers
            if x < y and numbers[upper_or(x, y)] * numbers[lower_and(x, y)] < numbers[x] * numbers[y]]


def by_row(shares):
    return dict(zip(all_rows(len(shares.marks)), shares.numbers))


def told_climbs(shares):
    """The sentence of the document, word by word."""
    numbers = by_row(shares)
    size = len(shares.marks)
    for place in range(size):
        with_it = {row[:place] + row[place + 1:]: numbers[row] for row in numbers if row[place] == "1"}
        without = {row[:place] + row[place + 1:]: numbers[row] for row in numbers if row[place] == "0"}
        for upper in with_it:
            for lower in with_it:
                above = all(high >= low for high, low in zip(upper, lower))
                if above and with_it[upper] * without[lower] < with_it[lower] * without[upper]:
                    return False
    return True


class Fits(unittest.TestCase):
    def test_by_hand(self):
        self.assertIs(fits(Shares(AB, (2, 1, 1, 2))), True)
        self.assertIs(fits(Shares(AB, (1, 2, 2, 1))), False)
        self.assertIs(fits(Shares(AB, (2, 2, 3, 3))), True)
        self.assertEqual(failing(Shares(AB, (1, 2, 2, 1))), ("01", "10"))
        self.assertIsNone(failing(Shares(AB, (2, 1, 1, 2))))
        self.assertIs(fits(shares=Shares(AB, (0, 1, 1, 9))), False)
        self.assertEqual(failing(shares=Shares(AB, (9, 1, 1, 0))), ("01", "10"))
        self.assertEqual(near_failing(shares=Shares(AB, (9, 1, 1, 0))), ("01", "10"))

    def test_by_a_single_one(self):
        self.assertIs(fits(Shares(AB, (MOST, MOST - 1, MOST - 1, MOST - 2))), False)
        self.assertIs(fits(Shares(AB, (MOST, MOST, MOST, MOST))), True)
        self.assertIs(fits(Shares(AB, (MOST - 1, MOST - 2, MOST, MOST - 1))), True)

    def test_one_mark_always_fits(self):
        for shares in mixed(1, 1, 20):
            self.assertIs(fits(shares), True)
            self.assertIsNone(failing(shares))
            self.assertIsNone(near_failing(shares))
            self.assertIs(climbs(shares), True)

    def against_all_pairs(self, shares):
        told = told_failing(by_row(shares))
        near = [pair for pair in told if len([1 for left, right in zip(*pair) if left != right]) == 2]
        self.assertIs(fits(shares), told == [])
        self.assertEqual(failing(shares), told[0] if told else None)
        self.assertEqual(near_failing(shares), near[0] if near else None)
        self.assertIs(climbs(shares), told_climbs(shares))

    def test_all_small_numbers_over_two_marks(self):
        for numbers in itertools.product(range(4), repeat=4):
            if any(numbers):
                self.against_all_pairs(Shares(AB, numbers))

    def test_zeros_and_ones_over_three_marks(self):
        for numbers in itertools.product((0, 1), repeat=8):
            if any(numbers):
                self.against_all_pairs(Shares(MARKS[:3], numbers))

    def test_some(self):
        for size in (2, 3, 4):
            for shares in mixed(2, size, 30):
                self.against_all_pairs(shares)

    def test_those_made_to_fit(self):
        for size in (1, 2, 3, 4):
            for shares in fitting(3, 30, size):
                self.assertIs(fits(shares), True)
                self.assertIs(climbs(shares), True)

    def test_pairs_that_differ_in_more_than_two_marks(self):
        three = Shares(MARKS[:3], (0, 1, 0, 0, 0, 0, 1, 0))
        self.assertEqual(failing(three), ("001", "110"))
        self.assertIsNone(near_failing(three))
        self.assertIs(climbs(three), False)
        four = Shares(MARKS, (0, 0, 0, 1, 0, 0, 0, 0, 0, 0, 0, 0, 1, 0, 0, 0))
        self.assertEqual(failing(four), ("0011", "1100"))
        self.assertIsNone(near_failing(four))
        self.assertIs(climbs(four), True)

    def test_numbers_above_0(self):
        several = 0
        for size in (1, 2, 3, 4):
            chosen = fitting(4, 60, size)
            for shares in full(5, 60, size, 2) + chosen + touched(6, chosen):
                if min(shares.numbers) > 0:
                    several += not fits(shares)
                    self.assertIs(climbs(shares), fits(shares))
                    self.assertEqual(near_failing(shares) is None, fits(shares))
        self.assertGreater(several, 40)

    def test_climbs_by_name(self):
        self.assertIs(climbs(shares=Shares(AB, (1, 2, 2, 1))), False)
        self.assertIs(climbs(shares=Shares(AB, (2, 1, 1, 2))), True)


class Room(unittest.TestCase):
    def test_by_hand(self):
        like = Shares(AB, (2, 1, 1, 2))
        self.assertEqual(room(like, "01"), (0, 4))
        self.assertEqual(room(like, "11"), (1, None))
        self.assertEqual(room(like, "00"), (1, None))
        self.assertEqual(room(shares=like, row="10"), (0, 4))
        self.assertEqual(room(row="11", shares=Shares(AB, (2, 3, 3, 1))), (5, None))
        self.assertEqual(room(Shares(AB, (2, 3, 0, 1)), "01"), (0, None))
        self.assertEqual(room(Shares(AB, (0, 3, 2, 1)), "01"), (0, 0))
        self.assertEqual(room(Shares(AB, (2, 3, 2, 1)), "01"), (0, 1))
        self.assertIsNone(room(Shares(AB, (0, 3, 2, 1)), "11"))
        self.assertEqual(room(Shares(AB, (0, 3, 0, 1)), "11"), (0, None))
        self.assertIs(room(like, "01").__class__, tuple)

    def test_two_others_that_speak_against_it_whatever_the_number(self):
        shares = Shares(MARKS[:3], (1, 2, 2, 1, 1, 1, 1, 1))
        self.assertIsNone(room(shares, "111"))
        self.assertIsNone(room(shares, "100"))

    def test_a_least_one_above_the_greatest_one(self):
        # "011" has to be at least 4 because of "001" and "010", and at most 2 because of "101".
        shares = Shares(MARKS[:3], (1, 2, 2, 9, 1, 1, 1, 1))
        self.assertEqual(told_failing({**by_row(shares), "011": 3})[:1], [("001", "010")])
        self.assertIsNone(room(shares, "011"))

    def test_great_numbers(self):
        self.assertEqual(room(Shares(AB, (1, MOST, MOST, 1)), "11"), (MOST * MOST, None))
        self.assertEqual(room(Shares(AB, (MOST, 1, 1, MOST)), "01"), (0, MOST * MOST))
        self.assertEqual(room(Shares(AB, (MOST - 1, MOST, MOST, 1)), "11"), (MOST + 2, None))
        self.assertEqual(room(Shares(AB, (MOST, MOST, MOST - 1, MOST)), "01"), (0, MOST + 1))

    def test_one_mark(self):
        for shares in some(7, 20, 1):
            self.assertEqual(room(shares, "0"), (0, None))
            self.assertEqual(room(shares, "1"), (0, None))

    def test_all_other_numbers_0(self):
        for size in (1, 2, 3, 4):
            for place, row in enumerate(all_rows(size)):
                for number in (1, MOST):
                    numbers = [0] * 2 ** size
                    numbers[place] = number
                    self.assertEqual(room(Shares(MARKS[:size], tuple(numbers)), row), (0, None))

    def test_a_number_of_0_counts_among_those_tried(self):
        # All numbers would be 0 then, and yet the products are as they must be.
        self.assertEqual(room(Shares(AB, (0, 0, 0, 5)), "11")[0], 0)

    def tried(self, shares, row, limit):
        """Check the room against trying the numbers one by one."""
        numbers = by_row(shares)
        good = [number for number in range(limit) if not told_failing({**numbers, row: number})]
        found = room(shares, row)
        if found is None:
            self.assertEqual(good, [])
            return "none"
        least, greatest = found
        self.assertEqual(good, [k for k in range(limit) if least <= k and (greatest is None or k <= greatest)])
        return "open" if greatest is None else "closed"

    def test_trying_numbers_one_by_one(self):
        kinds = {"none": 0, "open": 0, "closed": 0}
        for size in (1, 2, 3):
            chosen = full(8, 30, size, 3) + full(9, 10, size, 2)
            chosen += [shares for shares in some(10, 60, size) if max(shares.numbers) < 3]
            for shares in chosen:
                for row in all_rows(size):
                    kinds[self.tried(shares, row, 12)] += 1
        for shares in full(11, 4, 4, 2) + [Shares(MARKS, (1,) * 16), Shares(MARKS, (1,) + (0,) * 14 + (1,))]:
            for row in all_rows(4)[::3]:
                kinds[self.tried(shares, row, 4)] += 1
        self.assertGreater(min(kinds.values()), 20)

    def test_the_edges_of_the_room(self):
        several = 0
        for size in (2, 3, 4):
            for shares in fitting(12, 12, size) + touched(13, fitting(14, 12, size)):
                numbers = by_row(shares)
                for row in all_rows(size):
                    found = room(shares, row)
                    if found is None:
                        self.assertTrue(told_failing(numbers))
                        continue
                    least, greatest = found
                    self.assertFalse(told_failing({**numbers, row: least}))
                    self.assertFalse(told_failing({**numbers, row: least + 10 ** 30 if greatest is None else greatest}))
                    if least > 0:
                        self.assertTrue(told_failing({**numbers, row: least - 1}))
                    if greatest is not None:
                        several += 1
                        self.assertTrue(told_failing({**numbers, row: greatest + 1}))
        self.assertGreater(several, 40)

    def test_its_own_number_does_not_matter(self):
        for shares in fitting(15, 3, 3):
            for place, row in enumerate(all_rows(3)):
                told = room(shares, row)
                for number in (0, 1, MOST):
                    numbers = shares.numbers[:place] + (number,) + shares.numbers[place + 1:]
                    self.assertEqual(room(Shares(shares.marks, numbers), row), told)


class Whole(unittest.TestCase):
    def test_helpers_of_these_tests(self):
        self.assertEqual([upper_or("0110", "1010"), lower_and("0110", "1010")], ["1110", "0010"])
        self.assertEqual([is_over("11", "01"), is_over("01", "10")], [True, False])

    def test_nothing_is_altered(self):
        shares = Shares(AB, (1, 2, 2, 1))
        for _ in range(2):
            answers = [fits(shares), failing(shares), near_failing(shares), climbs(shares), room(shares, "11")]
            self.assertEqual(answers, [False, ("01", "10"), ("01", "10"), False, (4, None)])
            self.assertEqual((shares.marks, shares.numbers, shares.total), (AB, (1, 2, 2, 1), 6))

    def test_each_function_is_defined_here(self):
        for name in ("fits", "failing", "near_failing", "climbs", "room"):
            self.assertEqual(getattr(module, name).__module__, "wishesrise.fitting")


if __name__ == "__main__":
    unittest.main()
