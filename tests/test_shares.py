"""Points 8 and 13: shares, for arguments that are let in."""

import copy
import math
import unittest
from unittest import mock

from tests.helpers import Fond, Sullen, some, strange
from wishesrise import shares as module
from wishesrise.lots import all_rising, rows_of
from wishesrise.shares import Shares

MOST = 10 ** 12
LAMPS = "marks lamp, door\n00: 3\n01: 1\n11: 2"


class Made(unittest.TestCase):
    def test_attributes(self):
        shares = Shares(("lamp", "door"), (3, 1, 0, 2))
        self.assertEqual(shares.marks, ("lamp", "door"))
        self.assertEqual(shares.numbers, (3, 1, 0, 2))
        self.assertEqual(shares.total, 6)

    def test_by_name(self):
        shares = Shares(numbers=(1, 2), marks=("a",))
        self.assertEqual((shares.marks, shares.numbers, shares.total), (("a",), (1, 2), 3))

    def test_numbers_at_the_edges(self):
        self.assertEqual(Shares(("a",), (0, 1)).total, 1)
        self.assertEqual(Shares(("a",), (MOST, 0)).total, MOST)
        full = Shares(("a", "b", "c", "d"), (MOST,) * 16)
        self.assertEqual(full.total, 16 * MOST)
        self.assertEqual(Shares(("a", "b", "c", "d"), (0,) * 15 + (1,)).number("1111"), 1)

    def test_len_and_truth(self):
        for marks in (("a",), ("a", "b"), ("a", "b", "c"), ("a", "b", "c", "d")):
            shares = Shares(marks, (0,) * (2 ** len(marks) - 1) + (1,))
            self.assertEqual(len(shares), 2 ** len(marks))
            self.assertIs(bool(shares), True)

    def test_defined_in_the_class_itself(self):
        self.assertEqual(Shares.__module__, "wishesrise.shares")
        for name in ("__init__", "__len__", "__eq__", "__str__", "number", "sum_of", "share_of", "text", "read"):
            self.assertIn(name, vars(Shares))
        self.assertIs(module.Shares, Shares)


class Asked(unittest.TestCase):
    def test_number(self):
        for shares in some(1, 40):
            for row, number in zip(rows_of(shares.marks), shares.numbers):
                self.assertEqual(shares.number(row), number)
                self.assertEqual(shares.number(row=row), number)

    def test_sum_of(self):
        shares = Shares(("a", "b"), (3, 1, 0, 2))
        self.assertEqual(shares.sum_of(()), 0)
        self.assertEqual(shares.sum_of(("00", "11")), 5)
        self.assertEqual(shares.sum_of(("10",)), 0)
        self.assertEqual(shares.sum_of(("00", "01", "10", "11")), 6)
        self.assertEqual(shares.sum_of(one=("01", "11")), 3)

    def test_sums_of_rising_lots(self):
        for shares in some(2, 10):
            for lot in all_rising(shares.marks):
                told = sum(shares.numbers[int(row, 2)] for row in lot)
                self.assertEqual(shares.sum_of(lot), told)
                top, bottom = shares.share_of(lot)
                self.assertEqual(top * shares.total, told * bottom)
                self.assertEqual(math.gcd(top, bottom), 1)
                self.assertGreater(bottom, 0)

    def test_share_of(self):
        shares = Shares(("a", "b"), (3, 1, 0, 2))
        self.assertEqual(shares.share_of(()), (0, 1))
        self.assertEqual(shares.share_of(("10",)), (0, 1))
        self.assertEqual(shares.share_of(("00", "01", "10", "11")), (1, 1))
        self.assertEqual(shares.share_of(("00",)), (1, 2))
        self.assertEqual(shares.share_of(("00", "01")), (2, 3))
        self.assertEqual(shares.share_of(one=("01",)), (1, 6))
        self.assertIs(shares.share_of(("01",)).__class__, tuple)
        self.assertEqual(Shares(("a",), (MOST, MOST)).share_of(("1",)), (1, 2))
        self.assertEqual(Shares(("a",), (MOST - 1, MOST)).share_of(("1",)), (MOST, 2 * MOST - 1))
        self.assertEqual(Shares(("a",), (5, 0)).share_of(("0",)), (1, 1))


class Texts(unittest.TestCase):
    def test_the_example(self):
        lamps = Shares(("lamp", "door"), (3, 1, 0, 2))
        self.assertEqual(lamps.text(), LAMPS)
        self.assertEqual(str(lamps), LAMPS)
        self.assertEqual(Shares.read(LAMPS), lamps)
        self.assertEqual(Shares.read(text=LAMPS).numbers, (3, 1, 0, 2))

    def test_some_by_hand(self):
        self.assertEqual(Shares(("a",), (0, MOST)).text(), "marks a\n1: 1000000000000")
        self.assertEqual(Shares(("b", "a"), (1, 1, 1, 1)).text(), "marks b, a\n00: 1\n01: 1\n10: 1\n11: 1")
        self.assertEqual(Shares(("none", "marks", "a", "b"), (0,) * 6 + (10,) + (0,) * 9).text(),
                         "marks none, marks, a, b\n0110: 10")

    def test_read_those_that_are_one(self):
        self.assertEqual(Shares.read("marks a\n0: 1").numbers, (1, 0))
        self.assertEqual(Shares.read("marks abcdefgh\n0: 1\n1: 1000000000000").numbers, (1, MOST))
        self.assertEqual(Shares.read("marks a, b, c, d\n1111: 10").marks, ("a", "b", "c", "d"))
        self.assertEqual(Shares.read("marks marks\n1: 9").marks, ("marks",))

    def test_there_and_back(self):
        for shares in some(3, 120):
            text = shares.text()
            self.assertIs(text.__class__, str)
            self.assertEqual(str(shares), text)
            back = Shares.read(text)
            self.assertIs(back.__class__, Shares)
            self.assertEqual((back.marks, back.numbers, back.total), (shares.marks, shares.numbers, shares.total))
            self.assertEqual(back, shares)
            self.assertEqual(back.text(), text)
            self.assertEqual(len(text.split("\n")), 1 + len([number for number in shares.numbers if number > 0]))


class Equal(unittest.TestCase):
    def test_exactly_if_the_texts_are(self):
        found = some(4, 60) + [Shares(("a",), (1, 2)), Shares(("b",), (1, 2)), Shares(("a",), (2, 4)),
                               Shares(("a", "b"), (1, 2, 0, 0)), Shares(("b", "a"), (1, 2, 0, 0)),
                               Shares(("a",), (1, 2)), Shares.read("marks a\n0: 1\n1: 2")]
        for one in found:
            for two in found:
                self.assertIs(one == two, one.text() == two.text())
                self.assertIs(one != two, one.text() != two.text())

    def test_nothing_of_another_class(self):
        shares = Shares(("a",), (1, 2))
        others = [value for value in strange() if not isinstance(value, Sullen)]
        for other in others + [mock.ANY, Fond(), Sullen(), shares.text(), shares.numbers, (("a",), (1, 2)), 2, 3]:
            self.assertIs(shares == other, False)
            self.assertIs(shares != other, True)

    def test_one_that_only_looks_the_same(self):
        class Double:
            marks, numbers, total = ("a",), (1, 2), 3

        self.assertIs(Shares(("a",), (1, 2)) == Double(), False)


class NothingIsAltered(unittest.TestCase):
    def test_what_is_passed_and_the_shares_stay(self):
        marks, numbers, lot = ("lamp", "door"), (3, 1, 0, 2), ("01", "11")
        before = copy.deepcopy((marks, numbers, lot))
        shares = Shares(marks, numbers)
        for _ in range(2):
            self.assertEqual([shares.number("00"), shares.sum_of(lot), shares.share_of(lot)], [3, 3, (1, 2)])
            self.assertEqual([len(shares), str(shares), shares == Shares.read(LAMPS)], [4, LAMPS, True])
            self.assertEqual((marks, numbers, lot), before)
            self.assertEqual((shares.marks, shares.numbers, shares.total), (("lamp", "door"), (3, 1, 0, 2), 6))


if __name__ == "__main__":
    unittest.main()
