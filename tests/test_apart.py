"""Marks apart: points 2, 6, 7 and 8, as wishesrise.apart speaks of them."""

import itertools
import unittest

from tests.helpers import MARKS, MOST, Case, all_rows, fitting, full, mixed, no_shares, rising_lots, some, touched
from wishesrise import apart
from wishesrise.apart import helping_apart, hinders_apart
from wishesrise.helping import help_of
from wishesrise.lots import rising
from wishesrise.shares import Shares

AB, ABC = ("a", "b"), ("a", "b", "c")


def told_groups(size):
    """All ways to part so many marks: the places of the group that has the first mark, in their order."""
    found = [places for many in range(1, size) for places in itertools.combinations(range(size), many)]
    return [places for places in found if places[0] == 0]


def over_all(lot, places, size):
    """The lot over all marks of a lot that is told by the marks at these places."""
    return tuple(row for row in all_rows(size) if "".join(row[place] for place in places) in lot)


def told(shares):
    """The first triple of a group and two lots that help one another, by all groups and lots gone through."""
    size = len(shares.marks)
    numbers = dict(zip(all_rows(size), shares.numbers))
    for places in told_groups(size):
        others = [place for place in range(size) if place not in places]
        for one in rising_lots(len(places)):
            for two in rising_lots(len(others)):
                first, second = over_all(one, places, size), over_all(two, others, size)
                both = sum(numbers[row] for row in first if row in second)
                sums = [sum(numbers[row] for row in lot) for lot in (first, second)]
                if sum(shares.numbers) * both > sums[0] * sums[1]:
                    return tuple(shares.marks[place] for place in places), one, two
    return None


def apart_ones(seed, size):
    """Shares of which marks apart never help one another: one mark at most is there, once or so."""
    rows = all_rows(size)
    return [Shares(shares.marks, tuple(number if row.count("1") == 1 else 0 for row, number in zip(rows, shares.numbers)))
            for shares in full(seed, 10, size, MOST)]


class ByHand(unittest.TestCase):
    def test_one_mark_alone(self):
        for numbers in ((1, 0), (0, 1), (3, 4), (MOST, MOST)):
            self.assertIsNone(helping_apart(Shares(("a",), numbers)))
            self.assertIs(hinders_apart(Shares(("a",), numbers)), True)

    def test_two_marks(self):
        like, odd, even = (Shares(AB, numbers) for numbers in ((2, 1, 1, 2), (1, 2, 2, 1), (2, 4, 3, 6)))
        self.assertEqual(helping_apart(like), (("a",), ("1",), ("1",)))
        self.assertIs(hinders_apart(like), False)
        for shares in (odd, even):
            self.assertIsNone(helping_apart(shares))
            self.assertIs(hinders_apart(shares), True)

    def test_two_marks_against_both_products(self):
        for numbers in itertools.product((0, 1, 2, 3, MOST), repeat=4):
            if any(numbers):
                shares = Shares(AB, numbers)
                helping = numbers[0] * numbers[3] > numbers[1] * numbers[2]
                self.assertEqual(helping_apart(shares), (("a",), ("1",), ("1",)) if helping else None)
                self.assertIs(hinders_apart(shares), not helping)

    def test_three_marks(self):
        # Of "a" and "b" none helps the other; "c" is there exactly if "b" is. "One of a and b" comes ahead of "b".
        shares = Shares(ABC, (1, 0, 0, 1, 1, 0, 0, 1))
        self.assertEqual(helping_apart(shares), (AB, ("01", "10", "11"), ("1",)))
        # "a" is there if both others are, or none.
        shares = Shares(ABC, (0, 1, 1, 0, 1, 0, 0, 1))
        self.assertEqual(helping_apart(shares), (("a",), ("1",), ("11",)))
        shares = Shares(ABC, (0, 1, 1, 0, 1, 0, 0, 0))
        self.assertIsNone(helping_apart(shares))

    def test_by_fewer_marks_then_by_places(self):
        # Two marks of four that come together, all else by itself: a group that parts them is told.
        told_first = {("a", "d"): ("a",), ("b", "c"): ("a", "b"), ("b", "d"): ("a", "b"), ("c", "d"): ("a", "c")}
        marks = ("a", "b", "c", "d")
        for pair, group in told_first.items():
            places = [marks.index(mark) for mark in pair]
            numbers = tuple(int(row[places[0]] == row[places[1]]) for row in all_rows(4))
            self.assertEqual(helping_apart(Shares(marks, numbers))[0], group)

    def test_arguments_by_name(self):
        like = Shares(AB, (2, 1, 1, 2))
        self.assertIs(hinders_apart(shares=like), False)
        self.assertEqual(helping_apart(shares=like), (("a",), ("1",), ("1",)))

    def test_kinds_of_values(self):
        group, one, two = found = helping_apart(Shares(ABC, (1, 0, 0, 1, 1, 0, 0, 1)))
        self.assertTrue(all(part.__class__ is tuple for part in (found, group, one, two)))


class GoneThrough(unittest.TestCase):
    def against_all(self, chosen):
        """Check against all groups and lots gone through, and return how many marks each told group has."""
        counts = []
        for shares in chosen:
            found = helping_apart(shares)
            self.assertEqual(found, told(shares))
            self.assertIs(hinders_apart(shares), found is None)
            counts.append(0 if found is None else len(found[0]))
        return counts

    def test_two_marks(self):
        counts = self.against_all(mixed(1, 2, 60))
        self.assertTrue({0, 1} == set(counts))

    def test_three_marks(self):
        counts = self.against_all(mixed(2, 3, 40) + full(3, 150, 3, 4) + some(4, 150, 3) + apart_ones(5, 3))
        self.assertTrue({0, 1, 2} == set(counts))

    def test_four_marks(self):
        counts = self.against_all(mixed(6, 4, 8) + full(7, 20, 4, 4) + some(8, 20, 4) + apart_ones(9, 4))
        self.assertTrue({0, 1} <= set(counts))

    def test_four_marks_by_greater_groups(self):
        chosen = []
        for places in ((1, 2), (1, 3), (2, 3)):
            for top in (1, MOST):
                numbers = [top if row[places[0]] == row[places[1]] else 0 for row in all_rows(4)]
                chosen.append(Shares(MARKS, tuple(numbers)))
        self.assertEqual(self.against_all(chosen), [2] * 6)
        # "b", "c" and "d": the third is there if an odd number of the first two are; "a" by itself.
        odd = Shares(MARKS, tuple(int(row[1:].count("1") % 2 == 0) for row in all_rows(4)))
        self.against_all([odd])
        self.assertEqual(helping_apart(odd)[0], ("a", "bc"))
        three = [shares for shares in touched(10, fitting(11, 20, 4)) if len(set(shares.numbers)) > 1]
        self.against_all(three)

    def test_great_numbers_with_little_between_them(self):
        for place in range(8):
            numbers = [MOST - 1] * 8
            numbers[place] = MOST
            self.against_all([Shares(ABC, tuple(numbers))])

    def test_as_lots_over_all_marks(self):
        for shares in full(12, 30, 3, 9) + some(13, 30, 4):
            found = helping_apart(shares)
            if found is not None:
                group, one, two = found
                size = len(shares.marks)
                places = [shares.marks.index(mark) for mark in group]
                others = [place for place in range(size) if place not in places]
                first, second = over_all(one, places, size), over_all(two, others, size)
                self.assertEqual((rising(shares.marks, first), rising(shares.marks, second)), (first, second))
                self.assertGreater(help_of(shares, first, second), 0)
                self.assertEqual(group[0], shares.marks[0])
                self.assertLess(len(group), size)


class Wrong(Case):
    def test_no_shares(self):
        for act in (hinders_apart, helping_apart):
            for value in no_shares():
                self.fails("NotShares", value, act, value)
                self.fails("NotShares", value, act, shares=value)

    def test_nothing_is_altered(self):
        shares = Shares(AB, (2, 1, 1, 2))
        for _ in range(2):
            self.assertEqual(helping_apart(shares), (("a",), ("1",), ("1",)))
            self.assertEqual((shares.marks, shares.numbers, shares.total), (AB, (2, 1, 1, 2), 6))

    def test_each_function_is_defined_here(self):
        for name in ("hinders_apart", "helping_apart"):
            self.assertEqual(getattr(apart, name).__module__, "wishesrise.apart")


if __name__ == "__main__":
    unittest.main()
