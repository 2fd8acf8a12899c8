"""Wrong inputs of the functions over marks and lots: points 3, 4, 6 and 7."""

import unittest

from tests.helpers import Case, Fond, Sullen, hard_marks, nested, strange
from wishesrise.lots import all_rising, is_rising, least_rows, rising, rows_of

AB = ("a", "b")


def wrong_lots():
    """What is no lot over two marks, each with the index that InvalidLot tells."""
    return [(["01"], None), ("01", None), ("", None), (None, None), ({"01": 1}, None), ({"01"}, None), (True, None),
            (Sullen(), None), (Fond(), None), (iter(("01",)), None),
            (("0",), 0), (("011",), 0), (("",), 0), (("02",), 0), (("0 ",), 0), ((" 0",), 0), (("0\n",), 0),
            (("\u0660\u0661",), 0), ((1,), 0), ((None,), 0), ((b"01",), 0), ((True,), 0), ((("0", "1"),), 0),
            ((["0", "1"],), 0), ((Sullen(),), 0), ((Fond(),), 0), ((nested(19),), 0),
            (("01", "01"), 1), (("10", "01"), 1), (("01", "11", "10"), 2), (("01", Fond()), 1), (("01", Sullen()), 1),
            (("00", "01", "10", "11", "11"), 4), (("00", "01", "10", "11", "00"), 4), (("00", "01", "10", "11", "100"), 4),
            (("01", "00", "2", "3"), 1), (("00", "2", "01", "01"), 1), (("11", "10", "01", "00"), 1)]


class Marks(Case):
    def test_each_function_looks_at_them(self):
        for marks, index in hard_marks():
            self.fails("InvalidMarks", index, rows_of, marks)
            self.fails("InvalidMarks", index, all_rising, marks)
            self.fails("InvalidMarks", index, is_rising, marks, ())
            self.fails("InvalidMarks", index, rising, marks, ())
            self.fails("InvalidMarks", index, least_rows, marks, ())
            self.fails("InvalidMarks", index, rows_of, marks=marks)

    def test_strange_values(self):
        for value in strange():
            self.fails("InvalidMarks", 0 if isinstance(value, tuple) else None, rows_of, value)
            self.fails("InvalidMarks", 1, rows_of, ("a", value, "c"))

    def test_they_come_ahead_of_what_stands_behind(self):
        for act in (is_rising, rising, least_rows):
            for wrong in (None, ["01"], ("01", "01"), ("2",), ("0",), Sullen()):
                self.fails("InvalidMarks", 1, act, ("a", "a"), wrong)
                self.fails("InvalidMarks", None, act, ["a"], wrong)


class Lots(Case):
    def test_no_lot(self):
        for lot, index in wrong_lots():
            self.fails("InvalidLot", index, is_rising, AB, lot)
            self.fails("InvalidLot", index, least_rows, AB, lot)
            self.fails("InvalidLot", index, is_rising, one=lot, marks=AB)
            self.fails("InvalidLot", index, least_rows, one=lot, marks=AB)

    def test_rows_of_other_marks(self):
        self.fails("InvalidLot", 0, is_rising, ("a",), ("01", "11"))
        self.fails("InvalidLot", 0, least_rows, ("a", "b", "c"), ("01", "11"))
        self.fails("InvalidLot", 1, is_rising, ("a", "b", "c"), ("011", "11"))

    def test_not_rising(self):
        self.fails("NotRising", "01", least_rows, AB, ("01",))
        self.fails("NotRising", "01", least_rows, AB, ("01", "10"))
        self.fails("NotRising", "00", least_rows, AB, ("00", "01", "11"))
        self.fails("NotRising", "10", least_rows, ("a", "b"), ("10",))
        self.fails("NotRising", "010", least_rows, ("a", "b", "c"), ("001", "010", "011", "101", "111"))
        self.fails("NotRising", "0", least_rows, marks=("a",), one=("0",))

    def test_the_row_is_the_first_that_misses_one(self):
        # "001" misses nothing, "010" misses "110", and so does "100", which stands behind it.
        lot = ("001", "010", "011", "100", "101", "111")
        self.fails("NotRising", "010", least_rows, ("a", "b", "c"), lot)

    def test_no_lot_comes_ahead_of_not_rising(self):
        self.fails("InvalidLot", 1, least_rows, AB, ("01", "01"))
        self.fails("InvalidLot", 2, least_rows, AB, ("00", "01", "2"))

    def test_is_rising_answers_instead(self):
        self.assertIs(is_rising(AB, ("01",)), False)


class TuplesOfRows(Case):
    def test_none(self):
        for value in (["01"], "01", "", None, True, 1, {"01"}, {"01": 1}, Sullen(), Fond(), iter(("01",))):
            self.fails("InvalidRows", None, rising, AB, value)

    def test_the_first_that_is_wrong(self):
        for row in strange() + ["", "0", "011", "02", "0 ", "01\n", "\u0660\u0661", 1, ("0", "1")]:
            self.fails("InvalidRows", 0, rising, AB, (row,))
            self.fails("InvalidRows", 2, rising, AB, ("11", "11", row, "2"))
            self.fails("InvalidRows", 1, rising, rows=("00", row), marks=AB)
        self.fails("InvalidRows", 0, rising, ("a",), ("01",))
        self.fails("InvalidRows", 40, rising, AB, ("01",) * 40 + (None,))

    def test_order_and_twice_are_no_fault(self):
        self.assertEqual(rising(AB, ("11", "00", "11")), ("00", "01", "10", "11"))


if __name__ == "__main__":
    unittest.main()
