"""Wrong inputs of shares: points 3, 4, 5, 8 and 13."""

import unittest

from tests.helpers import Case, Fond, Sullen, hard_marks, nested, strange
from wishesrise.shares import Shares

A, AB = ("a",), ("a", "b")
MOST = 10 ** 12


class Marks(Case):
    def test_no_marks(self):
        for marks, index in hard_marks():
            self.fails("InvalidMarks", index, Shares, marks, (1, 2))
            self.fails("InvalidMarks", index, Shares, numbers=(1, 2), marks=marks)

    def test_ahead_of_the_numbers(self):
        for numbers in (None, [1, 2], (), (0, 0), (1, -1), (True, 1), (1, 2, 3), Sullen()):
            self.fails("InvalidMarks", 1, Shares, ("a", "a"), numbers)
            self.fails("InvalidMarks", None, Shares, numbers=numbers, marks=())


class Numbers(Case):
    def test_no_tuple(self):
        for numbers in (None, [1, 2], [0, 0], {0: 1, 1: 2}, {1, 2}, "12", b"12", 12, True, range(2), Sullen(), Fond()):
            self.fails("InvalidNumbers", None, Shares, A, numbers)
            self.fails("InvalidNumbers", None, Shares, marks=A, numbers=numbers)

    def test_too_few(self):
        for numbers in ((), (1,), (0,), (-1,), (None,), (True,), (Sullen(),)):
            self.fails("InvalidNumbers", None, Shares, A, numbers)
        self.fails("InvalidNumbers", None, Shares, AB, (1, 1, -1))
        self.fails("InvalidNumbers", None, Shares, ("a", "b", "c", "d"), (1,) * 15)

    def test_too_many(self):
        self.fails("InvalidNumbers", 2, Shares, A, (1, 2, 3))
        self.fails("InvalidNumbers", 2, Shares, A, (1, 2, 3, 4, 5))
        self.fails("InvalidNumbers", 2, Shares, A, (1, 2, -1))
        self.fails("InvalidNumbers", 2, Shares, A, (1, 2, None))
        self.fails("InvalidNumbers", 2, Shares, A, (0, 0, 0))
        self.fails("InvalidNumbers", 16, Shares, ("a", "b", "c", "d"), (1,) * 17)

    def test_an_earlier_wrong_one_comes_ahead_of_too_many(self):
        self.fails("InvalidNumbers", 1, Shares, A, (1, -1, 3))
        self.fails("InvalidNumbers", 0, Shares, A, (None, -1, 3))

    def test_all_0(self):
        self.fails("InvalidNumbers", None, Shares, A, (0, 0))
        self.fails("InvalidNumbers", None, Shares, AB, (0, 0, 0, 0))
        self.fails("InvalidNumbers", None, Shares, ("a", "b", "c", "d"), (0,) * 16)

    def test_the_first_that_is_wrong(self):
        wrong = strange() + [-1, -MOST, MOST + 1, 10 ** 59, "1", "", (), (1,), b"1", nested(19)]
        for number in wrong:
            self.fails("InvalidNumbers", 0, Shares, A, (number, 1))
            self.fails("InvalidNumbers", 1, Shares, A, (1, number))
            self.fails("InvalidNumbers", 2, Shares, AB, (0, 0, number, -1))
            self.fails("InvalidNumbers", 1, Shares, AB, (0, number, number, 1))

    def test_truths_are_no_integers(self):
        self.fails("InvalidNumbers", 1, Shares, A, (1, True))
        self.fails("InvalidNumbers", 0, Shares, A, (False, 1))
        self.fails("InvalidNumbers", 0, Shares, A, (False, False))


class Rows(Case):
    def test_no_row(self):
        shares = Shares(AB, (1, 2, 3, 4))
        for row in strange() + ["", "0", "011", "02", "0 ", " 01", "01\n", "\u0660\u0661", "a", 0, 1, ("0", "1"), ("01",)]:
            self.fails("InvalidRow", row, shares.number, row)
            self.fails("InvalidRow", row, shares.number, row=row)

    def test_a_row_of_other_marks(self):
        self.fails("InvalidRow", "01", Shares(A, (1, 2)).number, "01")
        self.fails("InvalidRow", "1", Shares(AB, (1, 2, 3, 4)).number, "1")


class Lots(Case):
    def test_no_lot(self):
        shares = Shares(AB, (1, 2, 3, 4))
        wrong = [(["01"], None), ("01", None), (None, None), (True, None), ({"01"}, None), (Sullen(), None),
                 (("0",), 0), (("01", "01"), 1), (("10", "01"), 1), (("01", "11", "10"), 2), (("01", None), 1),
                 ((Sullen(),), 0), ((Fond(),), 0), ((1,), 0), (("00", "01", "10", "11", "11"), 4), (("01", "2", "00"), 1)]
        for lot, index in wrong:
            for act in (shares.sum_of, shares.share_of):
                self.fails("InvalidLot", index, act, lot)
                self.fails("InvalidLot", index, act, one=lot)

    def test_lots_that_do_not_rise_are_let_in(self):
        shares = Shares(AB, (1, 2, 3, 4))
        self.assertEqual(shares.sum_of(("00", "10")), 4)
        self.assertEqual(shares.share_of(("00", "10")), (2, 5))


class Read(Case):
    def refused(self, text):
        self.fails("InvalidText", text, Shares.read, text)
        self.fails("InvalidText", text, Shares.read, text=text)

    def test_other_kinds_of_values(self):
        for value in strange() + [0, 1, (), ("marks a\n0: 1",), ["marks a", "0: 1"], b"marks a\n0: 1",
                                  Shares(A, (1, 0))]:
            self.refused(value)

    def test_wrong_first_rows(self):
        for first in ("", "marks", "marks ", "marks  a", " marks a", "marks a ", "Marks a", "mark a", "marks: a", "marks\ta",
                      "marks A", "marks a1", "marks abcdefghi", "marks a,b", "marks a , b", "marks a,  b", "marks a b",
                      "marks a, ", "marks a,", "marks , a", "marks a, a", "marks a, b, a", "marks a;b", "marks a\r",
                      "marks \u00e4", "marks a, b, c, d, e", "marks none, marks, a, b, c", "a", "a, b"):
            for signs in ("0", "00", "000", "0000", "00000"):
                self.refused(f"{first}\n{signs}: 1")

    def test_no_row_of_signs(self):
        for text in ("", "\n", "marks a", "marks a\n", "marks a\n\n", "0: 1", "marks a\nmarks a"):
            self.refused(text)

    def test_rows_for_0(self):
        for text in ("marks a\n0: 0", "marks a\n0: 0\n1: 1", "marks a\n0: 1\n1: 0", "marks a\n0: -0\n1: 1",
                     "marks a\n0: 1\n1: 00"):
            self.refused(text)

    def test_numbers_that_are_none(self):
        for figures in ("01", "007", "00", "", " ", "1 ", " 1", "+1", "-1", "1.", "1.0", "1e3", "0x1", "1_0", "1,000", "one",
                        "\u0661", "\uff11", "\u00b2", "1:", "1: 1", "1\t", "1\r", "1000000000001", "9999999999999",
                        "10000000000000", "9" * 60, "9" * 5000, "True"):
            self.refused(f"marks a\n0: {figures}")
            self.refused(f"marks a\n0: 1\n1: {figures}")

    def test_rows_that_are_none(self):
        for row in ("", "00", "000", "2", "a", "-", "x", " 0", "0 ", "\u0660", "marks"):
            self.refused(f"marks a\n{row}: 1")
        for row in ("", "0", "000", "0-", "02", "0 0"):
            self.refused(f"marks a, b\n{row}: 1")

    def test_out_of_order_or_twice(self):
        for rows in ("1: 1\n0: 1", "0: 1\n0: 1", "0: 1\n0: 2", "0: 1\n1: 1\n1: 1", "0: 1\n1: 1\n0: 1", "1: 1\n1: 1"):
            self.refused(f"marks a\n{rows}")
        self.refused("marks a, b\n00: 3\n11: 2\n01: 1")

    def test_rows_behind_the_last_one_and_between(self):
        for text in ("marks a\n0: 1\n", "marks a\n0: 1\n\n", "marks a\n0: 1\n ", "marks a\n\n0: 1", "\nmarks a\n0: 1",
                     "marks a\n0: 1\n\n1: 1", "marks a\n0: 1\nend", "marks a\n0: 1\nmarks a", "marks a\n0: 1\n2: 1"):
            self.refused(text)

    def test_other_blanks_and_signs(self):
        for text in ("marks a\n0 : 1", "marks a\n0:1", "marks a\n0:  1", "marks a\n0:\t1", "marks a\n0; 1", "marks a\n0= 1",
                     "marks a\n0 1", "marks a\r\n0: 1", "marks a\n0: 1\r\n1: 1", "marks a\r0: 1", "marks a\u20280: 1",
                     "marks a\x0b0: 1", "marks a\x0c0: 1", "marks a 0: 1", "marks a\n0\uff1a 1", "marks\u00a0a\n0: 1",
                     "marks a\n0:\u00a01", "\ufeffmarks a\n0: 1", "marks a\n0: 1\x00", "marks a\\n0: 1"):
            self.refused(text)

    def test_what_is_near_a_text_is_one_only_if_it_is_the_text_of_its_shares(self):
        base = "marks ab, c\n00: 10\n01: 1\n11: 2"
        signs = "0129 :,\nacm\t-"
        near = {base[:k] + base[k + 1:] for k in range(len(base))}
        near |= {base[:k] + sign + base[k:] for k in range(len(base) + 1) for sign in signs}
        near |= {base[:k] + sign + base[k + 1:] for k in range(len(base)) for sign in signs}
        one = 0
        for text in sorted(near):
            try:
                found = Shares.read(text)
            except ValueError:
                self.refused(text)
            else:
                self.assertEqual(found.text(), text)
                one += 1
        self.assertGreater(one, 40)


if __name__ == "__main__":
    unittest.main()
