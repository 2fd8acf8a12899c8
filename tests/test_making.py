"""Making Shares of others and of ties: points 3, 4, 8 and 9, as wishesrise.making speaks of them."""

import itertools
import random
import unittest

from tests.helpers import MARKS, MOST, Case, Fond, Sullen, all_rows, full, hard_marks, nested, no_shares, some, strange
from wishesrise import making
from wishesrise.fitting import fits
from wishesrise.helping import help_of, is_kind
from wishesrise.making import beside, mixed, of_ties
from wishesrise.shares import Shares

A, AB, ABC = ("a",), ("a", "b"), ("a", "b", "c")
ABCD = ("a", "b", "c", "d")


class Beside(Case):
    def test_by_hand(self):
        first, second = Shares(("lamp",), (2, 3)), Shares(("door",), (5, 7))
        self.assertEqual(beside(first, second), Shares(("lamp", "door"), (10, 14, 15, 21)))
        self.assertEqual(beside(second, first), Shares(("door", "lamp"), (10, 15, 14, 21)))
        self.assertEqual(beside(shares=first, other=second), Shares(("lamp", "door"), (10, 14, 15, 21)))
        self.assertEqual(beside(other=first, shares=second), Shares(("door", "lamp"), (10, 15, 14, 21)))

    def test_row_by_row(self):
        chance = random.Random(1)
        for many in (1, 2, 3):
            for more in range(1, 5 - many):
                for _ in range(20):
                    first = Shares(ABCD[:many], tuple(chance.choice([0, 1, 5, 10 ** 6]) for _ in range(2 ** many - 1)) + (3,))
                    second = Shares(ABCD[many:many + more], (2,) + tuple(chance.randint(0, 10 ** 6) for _ in range(2 ** more - 1)))
                    found = beside(first, second)
                    self.assertIs(found.__class__, Shares)
                    self.assertEqual(found.marks, ABCD[:many + more])
                    for row in all_rows(many + more):
                        self.assertEqual(found.number(row), first.number(row[:many]) * second.number(row[many:]))
                    self.assertEqual(found.total, first.total * second.total)

    def test_lots_of_either_side_neither_help_nor_hinder(self):
        found = beside(Shares(AB, (3, 1, 0, 2)), Shares(("c",), (4, 5)))
        for one in (("001", "011", "101", "111"), ("111",)):
            for two in (("010", "011", "110", "111"), ("100", "101", "110", "111")):
                together = help_of(found, one, two)
                self.assertEqual(together == 0, one == ("001", "011", "101", "111"))

    def test_marks_that_are_there_already(self):
        wrong = [(A, A, 1), (AB, A, 2), (AB, ("b",), 2), (A, ("b", "a"), 2), (AB, ("c", "b"), 3), (ABC, ("c",), 3),
                 (AB, ("b", "a"), 2), (AB, ("c", "d", "a"), 4), (AB, ("c", "a", "d"), 3), (ABCD, A, 4),
                 (ABCD, ("e",), 4), (ABC, ("d", "e"), 4), (ABC, ("d", "a"), 4), (ABC, ("b", "e"), 3), (A, ("b", "c", "d", "e"), 4),
                 (ABCD, ("e", "f", "g", "h"), 4), (ABCD, ABCD, 4), (ABC, ABC, 3)]
        for first, second, index in wrong:
            for number in (1, MOST):
                one, two = Shares(first, (number,) * 2 ** len(first)), Shares(second, (number,) * 2 ** len(second))
                self.fails("InvalidMarks", index, beside, one, two)
                self.fails("InvalidMarks", index, beside, other=two, shares=one)

    def test_products_that_are_too_great(self):
        one = Shares(A, (10 ** 6, 10 ** 6 + 1))
        self.fails("InvalidNumbers", 2, beside, one, Shares(("b",), (10 ** 6, 1)))
        self.fails("InvalidNumbers", 3, beside, one, Shares(("b",), (1, 10 ** 6)))
        self.fails("InvalidNumbers", 0, beside, one, Shares(("b",), (10 ** 6 + 1, 1)))
        self.fails("InvalidNumbers", 1, beside, one, Shares(("b",), (10 ** 6, 10 ** 6 + 1)))
        self.assertEqual(beside(Shares(A, (10 ** 6, 0)), Shares(("b",), (10 ** 6, 1))).numbers, (MOST, 10 ** 6, 0, 0))
        self.assertEqual(beside(Shares(A, (MOST, 1)), Shares(("b",), (1, 0))).numbers, (MOST, 0, 1, 0))
        self.fails("InvalidNumbers", 1, beside, Shares(A, (MOST, 1)), Shares(("b",), (1, 2)))
        self.fails("InvalidNumbers", 7, beside, other=Shares(("c",), (0, MOST)), shares=Shares(AB, (0, 1, 0, MOST)))

    def test_the_first_product_that_is_too_great(self):
        refused = 0
        for first, second in zip(some(2, 60, 2), some(3, 60, 2)):
            second = Shares(("x", "y"), second.numbers)
            products = [x * y for x in first.numbers for y in second.numbers]
            index = next((k for k, product in enumerate(products) if product > MOST), None)
            if index is None:
                self.assertEqual(beside(first, second).numbers, tuple(products))
            else:
                refused += 1
                self.fails("InvalidNumbers", index, beside, first, second)
        self.assertTrue(5 < refused < 55)

    def test_other_marks_are_no_error(self):
        self.assertEqual(beside(Shares(A, (1, 1)), Shares(("b", "c"), (1, 2, 3, 4))).marks, ABC)
        self.assertEqual(beside(Shares(("b", "c"), (1, 2, 3, 4)), Shares(A, (1, 1))).marks, ("b", "c", "a"))


class Mixed(Case):
    def test_by_hand(self):
        first, second = Shares(AB, (1, 0, 2, 3)), Shares(AB, (0, 0, 5, 7))
        self.assertEqual(mixed(first, second), Shares(AB, (1, 0, 7, 10)))
        self.assertEqual(mixed(shares=first, other=second), Shares(AB, (1, 0, 7, 10)))
        self.assertEqual(mixed(other=first, shares=second), Shares(AB, (1, 0, 7, 10)))

    def test_row_by_row(self):
        refused = 0
        for size in (1, 2, 3, 4):
            for first, second in zip(some(4, 40, size) + full(6, 8, size, MOST), some(5, 40, size) + full(7, 8, size, MOST)):
                sums = [x + y for x, y in zip(first.numbers, second.numbers)]
                index = next((k for k, number in enumerate(sums) if number > MOST), None)
                if index is not None:
                    refused += 1
                    self.fails("InvalidNumbers", index, mixed, first, second)
                    continue
                found = mixed(first, second)
                self.assertIs(found.__class__, Shares)
                self.assertEqual((found.marks, found.numbers), (first.marks, tuple(sums)))
        self.assertGreater(refused, 5)

    def test_sums_at_the_edge(self):
        self.assertEqual(mixed(Shares(A, (MOST - 1, 0)), Shares(A, (1, MOST))).numbers, (MOST, MOST))
        self.fails("InvalidNumbers", 0, mixed, Shares(A, (MOST, 0)), Shares(A, (1, MOST)))
        self.fails("InvalidNumbers", 1, mixed, Shares(A, (MOST - 1, 1)), Shares(A, (1, MOST)))
        self.fails("InvalidNumbers", 0, mixed, other=Shares(A, (MOST, MOST)), shares=Shares(A, (MOST, MOST)))

    def test_other_marks_ahead_of_sums(self):
        great = (MOST,) * 4
        for marks in (("a", "c"), ("b", "a"), ("ab", "b")):
            self.fails("OtherMarks", None, mixed, Shares(AB, great), Shares(marks, great))
            self.fails("OtherMarks", None, mixed, Shares(marks, great), Shares(AB, great))
        self.fails("OtherMarks", None, mixed, Shares(A, (1, 1)), Shares(AB, great))
        self.fails("OtherMarks", None, mixed, other=Shares(A, (1, 1)), shares=Shares(ABC, (1,) * 8))

    def test_mixed_ones_need_not_be_kind(self):
        first, second = Shares(AB, (0, 1, 0, 0)), Shares(AB, (0, 0, 1, 0))
        self.assertEqual([is_kind(shares) for shares in (first, second, mixed(first, second))], [True, True, False])


class WrongShares(Case):
    def test_no_shares(self):
        one = Shares(A, (1, 2))
        for act in (beside, mixed):
            for value in no_shares():
                self.fails("NotShares", value, act, value, one)
                self.fails("NotShares", value, act, one, value)
                self.fails("NotShares", value, act, value, None)
                self.fails("NotShares", value, act, other=[], shares=value)
                self.fails("NotShares", value, act, other=value, shares=one)

    def test_nothing_is_altered(self):
        first, second = Shares(A, (1, 2)), Shares(("b",), (3, 4))
        for _ in range(2):
            self.assertEqual(beside(first, second).numbers, (3, 4, 6, 8))
            self.assertEqual(mixed(first, first).numbers, (2, 4))
            self.assertEqual((first.marks, first.numbers, second.marks, second.numbers), (A, (1, 2), ("b",), (3, 4)))

    def test_each_function_is_defined_here(self):
        for name in ("beside", "mixed", "of_ties"):
            self.assertEqual(getattr(making, name).__module__, "wishesrise.making")


class OfTies(Case):
    def test_without_ties(self):
        for size in (1, 2, 3, 4):
            self.assertEqual(of_ties(MARKS[:size], ()), Shares(MARKS[:size], (1,) * 2 ** size))

    def test_one_tie(self):
        self.assertEqual(of_ties(AB, (("a", "b", 3),)), Shares(AB, (3, 1, 1, 3)))
        self.assertEqual(of_ties(AB, (("b", "a", 3),)), Shares(AB, (3, 1, 1, 3)))
        self.assertEqual(of_ties(ABC, (("a", "c", 10),)), Shares(ABC, (10, 1, 10, 1, 1, 10, 1, 10)))
        self.assertEqual(of_ties(marks=AB, ties=(("a", "b", 1),)), Shares(AB, (1, 1, 1, 1)))
        self.assertEqual(of_ties(ties=(("a", "b", 2),), marks=AB), Shares(AB, (2, 1, 1, 2)))

    def test_the_same_pair_twice_and_turned_about(self):
        self.assertEqual(of_ties(AB, (("a", "b", 3), ("a", "b", 3))), Shares(AB, (9, 1, 1, 9)))
        self.assertEqual(of_ties(AB, (("a", "b", 3), ("b", "a", 5))), Shares(AB, (15, 1, 1, 15)))
        self.assertEqual(of_ties(ABC, (("a", "b", 2), ("c", "b", 3))), Shares(ABC, (6, 2, 1, 3, 3, 1, 2, 6)))

    def test_twelve_and_thirteen(self):
        tie = ("b", "a", 10)
        self.assertEqual(of_ties(AB, (tie,) * 12), Shares(AB, (MOST, 1, 1, MOST)))
        self.fails("InvalidTies", 12, of_ties, AB, (tie,) * 13)
        self.fails("InvalidTies", 12, of_ties, AB, (tie,) * 14)
        self.fails("InvalidTies", 12, of_ties, AB, (("a", "b", 1),) * 12 + (None,))
        self.fails("InvalidTies", 11, of_ties, AB, (tie,) * 11 + (("a", "b", 11),) + (tie,) * 3)

    def test_products_gone_through_and_they_fit(self):
        chance = random.Random(6)
        for size in (2, 3, 4):
            pairs = list(itertools.permutations(MARKS[:size], 2))
            for many in list(range(13)) * 2:
                ties = tuple(chance.choice(pairs) + (chance.randint(1, 10),) for _ in range(many))
                found = of_ties(MARKS[:size], ties)
                self.assertIs(found.__class__, Shares)
                for row in all_rows(size):
                    signs = dict(zip(MARKS, row))
                    told = 1
                    for one, two, factor in ties:
                        told *= factor if signs[one] == signs[two] else 1
                    self.assertEqual(found.number(row), told)
                self.assertIs(fits(found), True)
                self.assertIs(is_kind(found), True)

    def test_marks_ahead_of_ties(self):
        for marks, index in hard_marks():
            for ties in ((), None, [], (("a", "a", 1),)):
                self.fails("InvalidMarks", index, of_ties, marks, ties)
            self.fails("InvalidMarks", index, of_ties, ties=(None,), marks=marks)

    def test_no_tuple(self):
        for ties in strange() + ["", "ab", 0, 1, [("a", "b", 2)], {("a", "b", 2)}]:
            index = 0 if isinstance(ties, tuple) else None
            self.fails("InvalidTies", index, of_ties, AB, ties)
            self.fails("InvalidTies", index, of_ties, ties=ties, marks=AB)

    def test_no_ties(self):
        wrong = strange() + [(), ("a",), ("a", "b"), ("a", "b", 2, 2), ["a", "b", 2], "ab2", ("a", 2, "b"), (2, "a", "b")]
        wrong += [("a", "a", 2), ("b", "b", 1), ("a", "c", 2), ("c", "a", 2), ("A", "b", 2), ("", "b", 2), (("a", "b"), 2)]
        wrong += [("a", "b", factor) for factor in (0, 11, -1, 10 ** 59, True, False, None, "2", (2,), [2], Sullen(), Fond())]
        wrong += [(value, "b", 2) for value in strange()] + [("a", value, 2) for value in strange() + [nested(18)]]
        for tie in wrong:
            self.fails("InvalidTies", 0, of_ties, AB, (tie,))
            self.fails("InvalidTies", 1, of_ties, AB, (("a", "b", 10), tie, None))
            self.fails("InvalidTies", 2, of_ties, ties=(("a", "b", 1), ("b", "a", 1), tie), marks=AB)

    def test_one_mark_has_no_ties(self):
        for tie in (("a", "a", 1), ("a", "b", 1)):
            self.fails("InvalidTies", 0, of_ties, A, (tie,))


if __name__ == "__main__":
    unittest.main()
