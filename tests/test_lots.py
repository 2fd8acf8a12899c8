"""Point 7: lots, rising lots, least rows and their order, for arguments that are let in."""

import copy
import itertools
import random
import unittest

from wishesrise import lots
from wishesrise.lots import all_rising, is_rising, least_rows, rising, rows_of

MARKS = [("a",), ("a", "b"), ("lamp", "door", "abcdefgh"), ("z", "y", "x", "w")]
HOW_MANY = [3, 6, 20, 168]


def above(upper, lower):
    return int(upper, 2) | int(lower, 2) == int(upper, 2)


def told_rising(rows, lot):
    return all(upper in lot for row in lot for upper in rows if above(upper, row))


def told_least(lot):
    return tuple(row for row in lot if not any(above(row, low) for low in lot if low != row))


def all_lots(rows):
    """All lots of these rows, in no order."""
    return [lot for many in range(len(rows) + 1) for lot in itertools.combinations(rows, many)]


def all_rising_by_numbers(size):
    """The rising lots of so many signs, found by trying each set of rows as a number."""
    rows = rows_of(MARKS[size - 1])
    ups = [sum(1 << k for k, upper in enumerate(rows) if above(upper, row)) for row in rows]
    found = []
    for chosen in range(1 << len(rows)):
        if all(chosen & up == up for k, up in enumerate(ups) if chosen >> k & 1):
            found.append(tuple(row for k, row in enumerate(rows) if chosen >> k & 1))
    return tuple(sorted(found))


class Rows(unittest.TestCase):
    def test_rows_of(self):
        self.assertEqual(rows_of(("a",)), ("0", "1"))
        self.assertEqual(rows_of(("a", "b")), ("00", "01", "10", "11"))
        for size, marks in enumerate(MARKS, 1):
            told = tuple("".join(signs) for signs in itertools.product("01", repeat=size))
            self.assertEqual(rows_of(marks), told)
            self.assertEqual(rows_of(marks=marks), told)
            self.assertIs(rows_of(marks).__class__, tuple)

    def test_marks_at_the_edges(self):
        for marks in [("a", "b", "c", "d"), ("abcdefgh",), ("z",), ("a", "aa", "aaa", "aaaaaaaa"), ("none", "marks")]:
            self.assertEqual(len(rows_of(marks)), 2 ** len(marks))


class Rising(unittest.TestCase):
    def test_by_hand(self):
        marks = ("a", "b")
        self.assertIs(is_rising(marks, ()), True)
        self.assertIs(is_rising(marks, ("11",)), True)
        self.assertIs(is_rising(marks, ("01", "11")), True)
        self.assertIs(is_rising(marks, ("00", "01", "10", "11")), True)
        self.assertIs(is_rising(marks, ("01", "10")), False)
        self.assertIs(is_rising(marks, ("00", "01", "11")), False)
        self.assertIs(is_rising(marks, ("00",)), False)
        self.assertIs(is_rising(marks=marks, one=("10", "11")), True)
        self.assertIs(is_rising(one=("10",), marks=marks), False)

    def test_all_lots_of_up_to_three_marks(self):
        for marks in MARKS[:3]:
            rows = rows_of(marks)
            for lot in all_lots(rows):
                self.assertIs(is_rising(marks, lot), told_rising(rows, lot), lot)

    def test_some_lots_of_four_marks(self):
        rows = rows_of(MARKS[3])
        known = set(all_rising(MARKS[3]))
        chance = random.Random(4)
        for _ in range(300):
            lot = tuple(sorted(chance.sample(rows, chance.randint(0, 16))))
            self.assertIs(is_rising(MARKS[3], lot), lot in known, lot)
        for lot in known:
            self.assertIs(is_rising(MARKS[3], lot), True)


class AllRising(unittest.TestCase):
    def test_one_mark(self):
        self.assertEqual(all_rising(("a",)), ((), ("0", "1"), ("1",)))

    def test_two_marks(self):
        told = ((), ("00", "01", "10", "11"), ("01", "10", "11"), ("01", "11"), ("10", "11"), ("11",))
        self.assertEqual(all_rising(("a", "b")), told)
        self.assertEqual(all_rising(marks=("a", "b")), told)

    def test_each_once_in_order_none_left_out(self):
        for size, marks in enumerate(MARKS, 1):
            found = all_rising(marks)
            self.assertIs(found.__class__, tuple)
            self.assertEqual(len(found), HOW_MANY[size - 1])
            self.assertEqual(len(set(found)), len(found))
            self.assertEqual(list(found), sorted(found))
            self.assertEqual(found, all_rising_by_numbers(size))
            for lot in found:
                self.assertIs(lot.__class__, tuple)

    def test_the_same_again(self):
        self.assertEqual(all_rising(MARKS[3]), all_rising(("d", "c", "b", "a")))


class LeastRows(unittest.TestCase):
    def test_by_hand(self):
        self.assertEqual(least_rows(("a", "b"), ()), ())
        self.assertEqual(least_rows(("a", "b"), ("01", "10", "11")), ("01", "10"))
        self.assertEqual(least_rows(("a", "b"), ("00", "01", "10", "11")), ("00",))
        self.assertEqual(least_rows(marks=("a",), one=("1",)), ("1",))
        self.assertEqual(rising(("a", "b", "c"), ("110", "001")), ("001", "011", "101", "110", "111"))
        self.assertEqual(least_rows(("a", "b", "c"), ("001", "011", "101", "110", "111")), ("001", "110"))

    def test_they_and_rising_lead_back_to_one_another(self):
        for marks in MARKS:
            seen = set()
            for lot in all_rising(marks):
                least = least_rows(marks, lot)
                self.assertIs(least.__class__, tuple)
                self.assertEqual(least, told_least(lot))
                self.assertEqual(rising(marks, least), lot)
                self.assertEqual(rising(marks, lot), lot)
                seen.add(least)
            self.assertEqual(len(seen), len(all_rising(marks)))


class LeastRisingLot(unittest.TestCase):
    def test_by_hand(self):
        self.assertEqual(rising(("a", "b"), ()), ())
        self.assertEqual(rising(("a", "b"), ("00",)), ("00", "01", "10", "11"))
        self.assertEqual(rising(("a", "b"), ("10",)), ("10", "11"))
        self.assertEqual(rising(("a", "b"), ("11", "01", "11", "01")), ("01", "11"))
        self.assertEqual(rising(marks=("a", "b"), rows=("10", "01")), ("01", "10", "11"))
        self.assertIs(rising(("a",), ("1",)).__class__, tuple)

    def test_it_is_the_least_one_that_has_them_all(self):
        chance = random.Random(7)
        for marks in MARKS:
            rows = rows_of(marks)
            for _ in range(60):
                chosen = tuple(chance.choice(rows) for _ in range(chance.randint(0, 6)))
                found = rising(marks, chosen)
                having = [lot for lot in all_rising(marks) if set(chosen) <= set(lot)]
                self.assertIn(found, having)
                for lot in having:
                    self.assertLessEqual(set(found), set(lot))

    def test_any_order_and_twice(self):
        chosen = ("011", "110", "101")
        told = rising(MARKS[2], chosen)
        for order in itertools.permutations(chosen):
            self.assertEqual(rising(MARKS[2], order), told)
            self.assertEqual(rising(MARKS[2], order + order), told)
        self.assertEqual(rising(MARKS[2], chosen * 5000), told)


class NothingIsAltered(unittest.TestCase):
    def test_what_is_passed_stays(self):
        marks, rows, lot = ("a", "b"), ("11", "01", "01"), ("01", "11")
        before = copy.deepcopy((marks, rows, lot))
        for _ in range(2):
            self.assertEqual(rising(marks, rows), lot)
            self.assertEqual(least_rows(marks, lot), ("01",))
            self.assertTrue(is_rising(marks, lot))
            self.assertEqual(len(all_rising(marks)), 6)
            self.assertEqual((marks, rows, lot), before)

    def test_each_function_is_defined_here(self):
        for name in ("rows_of", "is_rising", "rising", "least_rows", "all_rising"):
            self.assertEqual(getattr(lots, name).__module__, "wishesrise.lots")


if __name__ == "__main__":
    unittest.main()
