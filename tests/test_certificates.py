"""Claims of the program with their certificates: points 2, 4 and 12, as wishesrise.certificates speaks of them."""

import itertools
import unittest

from tests.helpers import MARKS, MOST, Case, Fond, Sullen, all_rows, fitting, full, is_over, lower_and, mixed, nested, no_shares
from tests.helpers import rising_lots, some, strange, told_help, touched, upper_or
from wishesrise import certificates
from wishesrise.certificates import certify_above, certify_fit, certify_hindering, certify_kind
from wishesrise.checker import holds_claim
from wishesrise.shares import Shares

A, AB, ABC = ("a",), ("a", "b"), ("a", "b", "c")
LIKE, ODD = Shares(AB, (2, 1, 1, 2)), Shares(AB, (1, 2, 2, 1))
LOW, HIGH = Shares(A, (2, 1)), Shares(A, (1, 1))
A_LOT, B_LOT = ("10", "11"), ("01", "11")


def opposite(claim):
    """The claim that says the opposite."""
    word = claim[0]
    return (word[4:] if word.startswith("not ") else "not " + word,) + claim[1:]


class CertificatesCase(Case):
    """A test case that looks at claims and certificates."""

    def holds(self, found, claim):
        """Check that this is a pair of that claim and a certificate that shows it, and not the opposite."""
        self.assertIs(found.__class__, tuple)
        self.assertEqual(len(found), 2)
        self.assertIs(found[0].__class__, tuple)
        self.assertEqual(found[0], claim)
        self.assertIs(holds_claim(*found), True)
        if claim[0] != "hinder":
            self.assertIs(holds_claim(opposite(claim), found[1]), False)
            for certificate in ((), ("01", "10"), ("11",), (A_LOT, B_LOT), -1):
                self.assertIs(holds_claim(opposite(claim), certificate), False)


class ByHand(CertificatesCase):
    def test_hindering(self):
        told = (("hinder", ODD.text(), A_LOT, B_LOT), -3)
        self.assertEqual(certify_hindering(ODD, A_LOT, B_LOT), told)
        self.assertEqual(certify_hindering(two=B_LOT, one=A_LOT, shares=ODD), told)
        self.assertEqual(certify_hindering(ODD, B_LOT, A_LOT), (("hinder", ODD.text(), B_LOT, A_LOT), -3))
        self.holds(told, told[0])
        for one, two in ((A_LOT, A_LOT), ((), A_LOT), (A_LOT, tuple(all_rows(2))), ((), ())):
            self.assertIsNone(certify_hindering(ODD, one, two))
        self.assertIsNone(certify_hindering(LIKE, A_LOT, B_LOT))

    def test_fit(self):
        self.assertEqual(certify_fit(LIKE), (("fit", "marks a, b\n00: 2\n01: 1\n10: 1\n11: 2"), ()))
        claim, certificate = certify_fit(shares=ODD)
        self.assertEqual(claim, ("not fit", "marks a, b\n00: 1\n01: 2\n10: 2\n11: 1"))
        self.assertEqual(set(certificate), {"01", "10"})

    def test_kind(self):
        self.assertEqual(certify_kind(LIKE), (("kind", LIKE.text()), ()))
        claim, certificate = certify_kind(shares=ODD)
        self.assertEqual(claim, ("not kind", ODD.text()))
        self.assertEqual(set(certificate), {A_LOT, B_LOT})

    def test_above(self):
        claim, certificate = certify_above(HIGH, LOW)
        self.assertEqual(claim, ("above", "marks a\n0: 1\n1: 1", "marks a\n0: 2\n1: 1"))
        self.assertEqual(certificate, (("0", "0", 3), ("1", "0", 1), ("1", "1", 2)))
        self.assertEqual(certify_above(LOW, HIGH), (("not above", LOW.text(), HIGH.text()), ("1",)))
        self.assertEqual(certify_above(other=LOW, shares=HIGH), (claim, certificate))

    def test_each_function_is_defined_here(self):
        for name in ("certify_hindering", "certify_fit", "certify_kind", "certify_above"):
            self.assertEqual(getattr(certificates, name).__module__, "wishesrise.certificates")


class Drawn(CertificatesCase):
    def test_hindering(self):
        found = []
        for size in (1, 2, 3):
            lots = rising_lots(size)
            for shares in mixed(1, size, 3):
                for one, two in itertools.product(lots, repeat=2):
                    worth = told_help(shares, one, two)
                    told = (("hinder", shares.text(), one, two), worth) if worth < 0 else None
                    self.assertEqual(certify_hindering(shares, one, two), told)
                    if told is not None:
                        found.append(told)
        for told in found[::5]:
            self.holds(told, told[0])
            claim, worth = told
            self.assertIs(holds_claim(claim, worth - 1), False)
            self.assertIs(holds_claim((claim[0], claim[1], claim[3], claim[2]), worth), True)
        self.assertGreater(len(found), 100)

    def test_hindering_of_four_marks(self):
        lots = rising_lots(4)[::7]
        for shares in full(2, 2, 4, MOST) + some(3, 2, 4):
            for one, two in itertools.combinations_with_replacement(lots, 2):
                worth = told_help(shares, one, two)
                found = certify_hindering(shares, one, two)
                self.assertEqual(found is None, worth >= 0)
                if found is not None:
                    self.holds(found, ("hinder", shares.text(), one, two))
                    self.assertEqual(found[1], worth)

    def test_fit(self):
        words = []
        for size in (1, 2, 3, 4):
            chosen = fitting(4, 10, size)
            for shares in mixed(5, size, 6) + chosen + touched(6, chosen):
                told = all(shares.number(upper_or(x, y)) * shares.number(lower_and(x, y)) >= shares.number(x) * shares.number(y)
                           for x in all_rows(size) for y in all_rows(size))
                found = certify_fit(shares)
                words.append("fit" if told else "not fit")
                self.holds(found, (words[-1], shares.text()))
                if told:
                    self.assertEqual(found[1], ())
                else:
                    self.assertIs(holds_claim(found[0], found[1][::-1]), True)
                    self.assertIs(holds_claim(found[0], ()), False)
        self.assertGreater(min(words.count("fit"), words.count("not fit")), 40)

    def test_kind(self):
        words = []
        for size in (1, 2, 3, 4):
            lots = rising_lots(size)
            for shares in mixed(7, size, 4 if size < 4 else 1):
                told = all(told_help(shares, one, two) >= 0 for one in lots for two in lots if one <= two)
                found = certify_kind(shares)
                words.append("kind" if told else "not kind")
                self.holds(found, (words[-1], shares.text()))
                if told:
                    self.assertEqual(found[1], ())
                else:
                    self.assertLess(told_help(shares, *found[1]), 0)
                    self.assertIs(holds_claim(found[0], found[1][::-1]), True)
        self.assertGreater(min(words.count("kind"), words.count("not kind")), 20)

    def test_above(self):
        words = []
        for size in (1, 2, 3, 4):
            lots = rising_lots(size)
            for shares, other in itertools.product(mixed(8, size, 2 if size < 4 else 1), repeat=2):
                told = all(shares.sum_of(lot) * other.total >= other.sum_of(lot) * shares.total for lot in lots)
                found = certify_above(shares, other)
                words.append("above" if told else "not above")
                self.holds(found, (words[-1], shares.text(), other.text()))
                if told:
                    self.assertTrue(all(is_over(upper, lower) and number > 0 for upper, lower, number in found[1]))
                    self.assertEqual(sum(number for _, _, number in found[1]), shares.total * other.total)
                else:
                    self.assertIn(found[1], lots)
        self.assertGreater(min(words.count("above"), words.count("not above")), 60)

    def test_at_the_limit(self):
        greatest = Shares(MARKS, (MOST,) * 16)
        top = Shares(MARKS, (0,) * 15 + (MOST,))
        self.holds(certify_fit(greatest), ("fit", greatest.text()))
        self.holds(certify_kind(greatest), ("kind", greatest.text()))
        self.holds(certify_above(top, greatest), ("above", top.text(), greatest.text()))
        self.holds(certify_above(greatest, top), ("not above", greatest.text(), top.text()))


class Wrong(CertificatesCase):
    WRONG_LOTS = [("InvalidLot", None, value) for value in (["11"], "11", "", None, 0, True, {"11"}, Sullen(), Fond())] + [
        ("InvalidLot", 0, ("1",)), ("InvalidLot", 0, (11,)), ("InvalidLot", 0, (None, "00")), ("InvalidLot", 1, ("11", "11")),
        ("InvalidLot", 1, ("11", "01")), ("InvalidLot", 1, ("00", Sullen())), ("InvalidLot", 0, (nested(18),)),
        ("InvalidLot", 2, ("00", "01", "0")), ("InvalidLot", 3, ("00", "01", "10", "00")),
        ("NotRising", "01", ("01",)), ("NotRising", "00", ("00", "11")), ("NotRising", "10", ("10",)),
        ("NotRising", "01", ("01", "10")), ("NotRising", "00", ("00", "01", "11")), ("NotRising", "00", ("00",))]

    def test_no_shares(self):
        for value in no_shares():
            for act in (certify_fit, certify_kind):
                self.fails("NotShares", value, act, value)
                self.fails("NotShares", value, act, shares=value)
            self.fails("NotShares", value, certify_hindering, value, A_LOT, B_LOT)
            self.fails("NotShares", value, certify_hindering, value, None, ("00",))
            self.fails("NotShares", value, certify_hindering, two=B_LOT, one=["11"], shares=value)
            self.fails("NotShares", value, certify_above, value, LOW)
            self.fails("NotShares", value, certify_above, LOW, value)
            self.fails("NotShares", value, certify_above, value, None)
            self.fails("NotShares", value, certify_above, other=value, shares=ODD)

    def test_no_rising_lots(self):
        for shares in (LIKE, ODD):
            for name, told, lot in self.WRONG_LOTS:
                self.fails(name, told, certify_hindering, shares, lot, B_LOT)
                self.fails(name, told, certify_hindering, shares, A_LOT, lot)
                self.fails(name, told, certify_hindering, two=B_LOT, one=lot, shares=shares)
                self.fails(name, told, certify_hindering, two=lot, one=(), shares=shares)

    def test_the_lot_one_ahead_of_the_lot_two(self):
        for name, told, one in self.WRONG_LOTS:
            for _, _, two in self.WRONG_LOTS:
                self.fails(name, told, certify_hindering, ODD, one, two)

    def test_strange_lots(self):
        for lot in strange():
            index = 0 if isinstance(lot, tuple) else None
            self.fails("InvalidLot", index, certify_hindering, ODD, lot, B_LOT)
            self.fails("InvalidLot", index, certify_hindering, ODD, A_LOT, lot)

    def test_other_marks_at_last(self):
        others = [Shares(("a", "c"), (1, 2, 3, 4)), Shares(("b", "a"), (1, 2, 3, 4)), LOW, Shares(ABC, (1,) * 8)]
        for other in others:
            self.fails("OtherMarks", None, certify_above, LIKE, other)
            self.fails("OtherMarks", None, certify_above, other=LIKE, shares=other)
            self.fails("NotShares", None, certify_above, other, None)

    def test_nothing_is_altered(self):
        for _ in range(2):
            self.assertEqual(certify_hindering(ODD, A_LOT, B_LOT)[1], -3)
            self.assertEqual(certify_above(HIGH, LOW), certify_above(HIGH, LOW))
            self.assertEqual((ODD.numbers, HIGH.numbers, A_LOT, B_LOT), ((1, 2, 2, 1), (1, 1), ("10", "11"), ("01", "11")))


if __name__ == "__main__":
    unittest.main()
