"""Wrong inputs of the functions that ask about shares: points 3, 4 and 5."""

import itertools
import unittest

from tests.helpers import MOST, Case, Fond, Sullen, nested, no_shares, strange
from wishesrise.above import coupling, four, four_sums, is_above, less_at, passes
from wishesrise.fitting import climbs, failing, fits, near_failing, room
from wishesrise.helping import help_of, hindering, is_kind, most_hindering
from wishesrise.holding import held, hindering_held, is_kind_held, seen
from wishesrise.shares import Shares

A, AB, ABC = ("a",), ("a", "b"), ("a", "b", "c")
ONE, TWO, THREE = Shares(A, (1, 2)), Shares(AB, (1, 2, 3, 4)), Shares(ABC, (1, 2, 3, 4, 5, 6, 7, 8))

ALONE = (hindering, is_kind, most_hindering, fits, failing, near_failing, climbs, is_kind_held, hindering_held)
PAIRED = (is_above, less_at, coupling, passes)

# What is no lot over two marks, each with the index that InvalidLot tells.
WRONG_LOTS = [(["01"], None), ("01", None), ("", None), (None, None), ({"01"}, None), (True, None), (Sullen(), None),
              (Fond(), None), (("0",), 0), (("011",), 0), (("02",), 0), ((1,), 0), ((None,), 0), ((b"01",), 0),
              ((("01",),), 0), ((Sullen(),), 0), ((Fond(),), 0), ((nested(19),), 0), (("01", "01"), 1),
              (("10", "01"), 1), (("01", "11", "10"), 2), (("00", "01", "10", "11", "11"), 4), (("01", "2", "0"), 1)]
WRONG_ROWS = strange() + ["", "0", "011", "02", "0 ", "01\n", "\u0660\u0661", "a", "lamp", 0, 1, 10, ("0", "1"), ("01",)]


class NotSharesAtAll(Case):
    def test_alone(self):
        for act in ALONE:
            for value in no_shares():
                self.fails("NotShares", value, act, value)
                self.fails("NotShares", value, act, shares=value)

    def test_ahead_of_what_stands_behind(self):
        for value in no_shares():
            for rest in ((("01",), ("10",)), (("10", "01"), None), (Sullen(), Sullen())):
                self.fails("NotShares", value, help_of, value, *rest)
            for row in ("01", "2", None, Sullen()):
                self.fails("NotShares", value, room, value, row)
                self.fails("NotShares", value, held, value, row, row)
                self.fails("NotShares", value, seen, value, row)
            self.fails("NotShares", value, room, row="01", shares=value)
            self.fails("NotShares", value, held, sign="0", mark="a", shares=value)
            self.fails("NotShares", value, seen, marks=("a",), shares=value)
            self.fails("NotShares", value, help_of, two=("01",), one=("10",), shares=value)

    def test_one_of_two(self):
        for act in PAIRED:
            for value in no_shares():
                self.fails("NotShares", value, act, value, TWO)
                self.fails("NotShares", value, act, TWO, value)
                self.fails("NotShares", value, act, value, None)
                self.fails("NotShares", value, act, other=[], shares=value)
                self.fails("NotShares", value, act, other=value, shares=TWO)

    def test_one_of_four(self):
        for place in range(4):
            for value in no_shares():
                passed = [TWO] * 4
                passed[place] = value
                self.fails("NotShares", value, four, *passed)
                self.fails("NotShares", value, four_sums, *passed, (), ())
                self.fails("NotShares", value, four_sums, *passed, ["01"], None)
                self.fails("NotShares", value, four, **dict(zip(("shares", "other", "third", "fourth"), passed)))

    def test_the_first_wrong_one_of_several(self):
        wrong = [[], {}, "", object()]
        for chosen in itertools.product((True, False), repeat=4):
            if not all(chosen):
                passed = [TWO if right else value for right, value in zip(chosen, wrong)]
                first = next(value for right, value in zip(chosen, wrong) if not right)
                self.fails("NotShares", first, four, *passed)
                self.fails("NotShares", first, four_sums, *passed, None, None)

    def test_ahead_of_other_marks(self):
        self.fails("NotShares", None, four, ONE, TWO, THREE, None)
        self.fails("NotShares", None, four_sums, ONE, TWO, None, THREE, (), ())


class Lots(Case):
    def test_help_of(self):
        for lot, index in WRONG_LOTS:
            self.fails("InvalidLot", index, help_of, TWO, lot, ("01",))
            self.fails("InvalidLot", index, help_of, TWO, ("01",), lot)
            self.fails("InvalidLot", index, help_of, TWO, lot, ["01"])
            self.fails("InvalidLot", index, help_of, two=("01", "00"), one=lot, shares=TWO)
            self.fails("InvalidLot", index, help_of, two=lot, one=(), shares=TWO)

    def test_four_sums(self):
        for lot, index in WRONG_LOTS:
            self.fails("InvalidLot", index, four_sums, TWO, TWO, TWO, TWO, lot, ("01",))
            self.fails("InvalidLot", index, four_sums, TWO, TWO, TWO, TWO, ("01",), lot)
            self.fails("InvalidLot", index, four_sums, TWO, TWO, TWO, TWO, lot, ["01"])
            self.fails("InvalidLot", index, four_sums, two=("01", "00"), one=lot, fourth=TWO, third=TWO, other=TWO, shares=TWO)

    def test_the_lot_one_ahead_of_the_lot_two(self):
        self.fails("InvalidLot", 1, help_of, TWO, ("01", "01"), ("00", "01", "1"))
        self.fails("InvalidLot", 1, four_sums, TWO, TWO, TWO, TWO, ("01", "01"), ("00", "01", "1"))
        self.fails("InvalidLot", 2, four_sums, TWO, TWO, TWO, TWO, ("01",), ("00", "01", "1"))

    def test_rows_of_other_marks(self):
        self.fails("InvalidLot", 0, help_of, ONE, ("01",), ("1",))
        self.fails("InvalidLot", 0, help_of, ONE, ("1",), ("01",))
        self.fails("InvalidLot", 1, help_of, THREE, ("001", "01"), ("1",))

    def test_lots_that_are_not_rising_are_let(self):
        self.assertEqual(help_of(TWO, ("01",), ("10",)), -6)
        self.assertEqual(four_sums(TWO, TWO, TWO, TWO, ("01",), ("10",)), (6, 4))


class Rows(Case):
    def test_room(self):
        for row in WRONG_ROWS:
            self.fails("InvalidRow", row, room, TWO, row)
            self.fails("InvalidRow", row, room, row=row, shares=TWO)
        self.fails("InvalidRow", "01", room, ONE, "01")
        self.fails("InvalidRow", "01", room, THREE, "01")


class Holding(Case):
    def test_no_mark(self):
        for mark in strange() + ["", "c", "A", "ab", "a ", "lamp", 0, 1, ("a",), ("a", "0"), b"a"]:
            for sign in ("0", "1", "2", None, Sullen()):
                self.fails("UnknownMark", mark, held, TWO, mark, sign)
            self.fails("UnknownMark", mark, held, sign="0", mark=mark, shares=TWO)
        self.fails("UnknownMark", "b", held, ONE, "b", "0")

    def test_no_sign(self):
        for sign in strange() + ["", "2", "01", "00", "11", "10", " 0", "0 ", "\u0660", 0, 1, ("0",)]:
            for mark in AB:
                self.fails("InvalidRow", sign, held, TWO, mark, sign)
                self.fails("InvalidRow", sign, held, sign=sign, mark=mark, shares=TWO)
            # NoShares comes at last.
            self.fails("InvalidRow", sign, held, ONE, "a", sign)

    def test_no_marks_to_see(self):
        for marks in strange() + ["a", "ab", "", 0, (), ["a"], {"a": 1}, Sullen(), Fond()]:
            index = 0 if isinstance(marks, tuple) and marks else None
            self.fails("InvalidMarks", index, seen, THREE, marks)
            self.fails("InvalidMarks", index, seen, marks=marks, shares=THREE)

    def test_the_first_that_is_none_of_them_or_out_of_order(self):
        wrong = [(("d",), 0), (("",), 0), (("A",), 0), (("b", "a"), 1), (("c", "b", "a"), 1), (("a", "a"), 1),
                 (("a", "b", "b"), 2), (("a", "c", "b"), 2), (("b", "c", "a"), 2), (("a", "d", "b"), 1), (("d", "a"), 0),
                 (("b", "a", "d"), 1), (("a", "b", "c", "d"), 3), (("a", "b", "c", "c"), 3), (("a", "b", "c", "a", None), 3),
                 (("c", "c"), 1), (("c", "d"), 1), (("a", "c", "c", "b"), 2)]
        for marks, index in wrong:
            self.fails("InvalidMarks", index, seen, THREE, marks)
            self.fails("InvalidMarks", index, seen, marks=marks, shares=THREE)

    def test_strange_values_among_them(self):
        for value in strange() + [0, 1, b"a", ("a",)]:
            self.fails("InvalidMarks", 0, seen, THREE, (value, "a"))
            self.fails("InvalidMarks", 1, seen, THREE, ("a", value, "a"))
            self.fails("InvalidMarks", 2, seen, THREE, ("a", "b", value))

    def test_sums_that_are_too_great_come_at_last(self):
        great = Shares(AB, (MOST,) * 4)
        self.fails("InvalidMarks", 1, seen, great, ("a", "a"))
        self.fails("InvalidMarks", 1, seen, great, ("b", "a"))
        self.fails("InvalidNumbers", 0, seen, great, ("a",))


class OtherMarksAtLast(Case):
    OTHERS = [Shares(("a", "c"), (1, 2, 3, 4)), Shares(("b", "a"), (1, 2, 3, 4)), ONE, THREE,
              Shares(("a", "b", "c", "d"), (1,) * 16), Shares(("ab", "b"), (1, 2, 3, 4))]

    def test_two(self):
        for act in PAIRED:
            for other in self.OTHERS:
                self.fails("OtherMarks", None, act, TWO, other)
                self.fails("OtherMarks", None, act, other, TWO)
                self.fails("OtherMarks", None, act, other=other, shares=TWO)

    def test_four(self):
        for place in range(4):
            for other in self.OTHERS:
                passed = [TWO] * 4
                passed[place] = other
                self.fails("OtherMarks", None, four, *passed)
                self.fails("OtherMarks", None, four_sums, *passed, (), ())
                self.fails("OtherMarks", None, four, **dict(zip(("shares", "other", "third", "fourth"), passed)))

    def test_behind_the_lots(self):
        for other in self.OTHERS[:2]:
            self.fails("InvalidLot", 1, four_sums, TWO, other, TWO, TWO, ("01", "01"), ())
            self.fails("InvalidLot", None, four_sums, TWO, TWO, TWO, other, (), ["01"])
            self.fails("OtherMarks", None, four_sums, TWO, TWO, TWO, other, ("01",), ("10",))

    def test_the_same_marks_are_no_other_ones(self):
        same = Shares(tuple(["a", "b"]), (4, 3, 2, 1))
        self.assertIs(is_above(TWO, same), True)
        self.assertIsNotNone(coupling(TWO, same))


if __name__ == "__main__":
    unittest.main()
