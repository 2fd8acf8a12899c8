"""Claims and their certificates: points 3 to 5, 12 and 13, as wishesrise.checker speaks of them."""

import itertools
import random
import unittest

from tests.helpers import MARKS, MOST, Case, Fond, Sullen, all_rows, fitting, full, is_over, lower_and, mixed, nested
from tests.helpers import rising_lots, some, strange, upper_or
from wishesrise import checker
from wishesrise.above import coupling, less_at
from wishesrise.checker import holds_claim
from wishesrise.fitting import failing, fits
from wishesrise.helping import help_of, hindering
from wishesrise.shares import Shares

LIKE = "marks a, b\n00: 2\n01: 1\n10: 1\n11: 2"
ODD = "marks a, b\n00: 1\n01: 2\n10: 2\n11: 1"
LOW = "marks a\n0: 2\n1: 1"
HIGH = "marks a\n0: 1\n1: 1"
# Of the total 6 of ODD, "a" and "b" have 3 each, both together 1: 6 * 1 - 3 * 3.
A_LOT, B_LOT = ("10", "11"), ("01", "11")
# FIRST's numbers 1, 1 times SECOND's total 3, and SECOND's 2, 1 times FIRST's total 2: 3 and 3 go down to 4 and 2.
LINKS = (("0", "0", 3), ("1", "0", 1), ("1", "1", 2))

# Right claims with their certificates, worked out by hand.
RIGHT = [
    (("hinder", ODD, A_LOT, B_LOT), -3),
    (("hinder", ODD, B_LOT, A_LOT), -3),
    # Of the total 4, "a" and "b" have 1 each, both together 0: 4 * 0 - 1 * 1.
    (("hinder", "marks a, b\n00: 2\n01: 1\n10: 1", A_LOT, B_LOT), -1),
    (("fit", LIKE), ()),
    (("fit", "marks lamp\n0: 1000000000000"), ()),
    (("not fit", ODD), ("01", "10")),
    (("not fit", ODD), ("10", "01")),
    (("kind", LIKE), ()),
    (("not kind", ODD), (B_LOT, A_LOT)),
    (("not kind", ODD), (A_LOT, B_LOT)),
    (("above", HIGH, LOW), LINKS),
    (("above", LOW, LOW), (("0", "0", 6), ("1", "1", 3))),
    (("above", "marks a\n1: 7", "marks a\n0: 5"), (("1", "0", 35),)),
    (("not above", LOW, HIGH), ("1",)),
    (("not above", "marks a\n0: 5", "marks a\n1: 7"), ("1",)),
]

TRUE_CLAIMS = [claim for claim, _ in RIGHT]
FALSE_CLAIMS = [
    ("hinder", LIKE, A_LOT, B_LOT), ("hinder", ODD, A_LOT, A_LOT), ("hinder", ODD, (), B_LOT), ("fit", ODD), ("kind", ODD),
    ("hinder", ODD, ("00", "01", "10", "11"), B_LOT), ("not fit", LIKE), ("not kind", LIKE), ("above", LOW, HIGH),
    ("above", ODD, LIKE), ("not above", HIGH, LOW), ("not above", LOW, LOW), ("not above", LIKE, LIKE),
]

CERTIFICATES = [certificate for _, certificate in RIGHT] + [
    0, 1, -1, 3, -2, 10 ** 59, -10 ** 59, "", "01", "-3", ("01",), ("01", "01"), ("00", "11"), ("11", "00"), ("01", "11"),
    ("00", "01"), ("01", "10", "11"), ("11",), ((), ()), ((), ("11",)), (("11",), ("11",)), (A_LOT, A_LOT), ("0", "1"), ("0",), ("1", "0"),
    (("0", "0", 4), ("1", "0", 0), ("1", "1", 2)), (("00", "00", 12), ("11", "11", 12)), ((("01", "11"),),),
]


def odd_values():
    """Return values of all kinds: nested deep, great integers, long strings, and objects that cannot be compared."""
    return strange() + CERTIFICATES + TRUE_CLAIMS + [nested(20), nested(19), [nested(18)], "x" * 4000, "0" * 4000,
                                                     "1" * 4000, "marks " + "a" * 3994, LIKE, 10 ** 60 - 1, 1 - 10 ** 60,
                                                     Shares(("a",), (1, 1)), ("fit", nested(19)), tuple(range(500))]


class CheckerCase(Case):
    """A test case that looks at what the checker answers."""

    def holds(self, claim, certificate):
        self.assertIs(holds_claim(claim, certificate), True, (claim, certificate))

    def refused(self, claim, certificate):
        found = holds_claim(claim, certificate)
        if found is not False:
            self.fail(f"{claim!r} was accepted with {certificate!r}")


class ByHand(CheckerCase):
    def test_right_certificates(self):
        for claim, certificate in RIGHT:
            self.holds(claim, certificate)
            self.assertIs(holds_claim(claim=claim, certificate=certificate), True)
            self.assertIs(holds_claim(certificate=certificate, claim=claim), True)

    def test_certificates_of_other_claims(self):
        for claim, certificate in RIGHT:
            for other, told in RIGHT:
                if told != certificate and (claim, told) not in RIGHT:
                    self.refused(claim, told)

    def test_what_is_false_is_accepted_with_no_certificate(self):
        for claim in FALSE_CLAIMS:
            for certificate in CERTIFICATES + [help_of(Shares.read(ODD), A_LOT, A_LOT), 3]:
                self.refused(claim, certificate)

    def test_the_only_certificates(self):
        for claim in TRUE_CLAIMS:
            for certificate in odd_values():
                told = False
                for other, right in RIGHT:
                    if other == claim and right.__class__ is certificate.__class__:
                        told = told or right == certificate
                self.assertIs(holds_claim(claim, certificate), told, (claim, certificate.__class__))


class Hinder(CheckerCase):
    def test_another_number(self):
        claim = ("hinder", ODD, A_LOT, B_LOT)
        for number in (-4, -2, 3, 0, -1, -9, -10 ** 59, "-3", (-3,), [-3], None, True, False, -3 + 0j):
            self.refused(claim, number)

    def test_truths_are_no_integers(self):
        # Their help is -1; and no truth stands for a number.
        claim, number = RIGHT[2]
        self.holds(claim, number)
        for value in (True, False):
            self.refused(claim, value)

    def test_lots_that_do_not_hinder(self):
        for text in (LIKE, ODD):
            shares = Shares.read(text)
            for one in rising_lots(2):
                for two in rising_lots(2):
                    worth = help_of(shares, one, two)
                    for number in (worth, -worth, worth - 1, -1, 0, -3):
                        told = worth < 0 and number == worth
                        self.assertIs(holds_claim(("hinder", text, one, two), number), told)

    def test_lots_that_are_not_rising(self):
        # As lots they hinder one another, but they are no wishes that rise.
        shares = Shares.read(LIKE)
        for one, two in ((("01",), ("10",)), (("00",), ("11",)), (("11",), ("00", "01")), (("00", "01"), A_LOT)):
            self.assertLess(help_of(shares, one, two), 0)
            self.refused(("hinder", LIKE, one, two), help_of(shares, one, two))
            self.refused(("hinder", LIKE, two, one), help_of(shares, one, two))

    def test_values_that_are_no_lots(self):
        wrong = strange() + ["", "11", ["10", "11"], ["01", "11"], ("11", "10"), ("10", "11", "11"), ("1",), ("011", "111"),
                             ("10", "12"), (11,), 0, -3, nested(18)]
        for lot in wrong:
            self.refused(("hinder", ODD, lot, B_LOT), -3)
            self.refused(("hinder", ODD, A_LOT, lot), -3)
            self.refused(("hinder", ODD, lot, lot), -3)


class Fit(CheckerCase):
    def test_pairs_that_do_not_speak_against_it(self):
        for pair in itertools.product(all_rows(2), repeat=2):
            self.assertIs(holds_claim(("not fit", ODD), pair), set(pair) == {"01", "10"})
            self.refused(("not fit", LIKE), pair)

    def test_values_that_are_no_pairs_of_rows(self):
        for pair in (["01", "10"], ("01",), ("01", "10", "11"), (), "01", "0110", ("01", "1"), ("1", "0"), ("01", "12"),
                     ("01", 10), (1, 10), (b"01", b"10"), (("01",), ("10",)), ("01", None), (Sullen(), "10"), ("01", Fond()),
                     {"01": "10"}, None):
            self.refused(("not fit", ODD), pair)

    def test_all_pairs_of_drawn_shares(self):
        accepted = 0
        for size in (1, 2, 3, 4):
            for shares in mixed(1, size, 4):
                text, rows = shares.text(), all_rows(size)
                self.assertIs(holds_claim(("fit", text), ()), fits(shares))
                for x, y in itertools.product(rows, repeat=2):
                    ends = shares.number(upper_or(x, y)) * shares.number(lower_and(x, y))
                    told = ends < shares.number(x) * shares.number(y)
                    self.assertIs(holds_claim(("not fit", text), (x, y)), told)
                    accepted += told
        self.assertGreater(accepted, 50)


class Kind(CheckerCase):
    def test_all_pairs_of_lots_of_drawn_shares(self):
        accepted = 0
        for size in (1, 2, 3):
            for shares in mixed(2, size, 4):
                text, lots = shares.text(), rising_lots(size)
                self.assertIs(holds_claim(("kind", text), ()), hindering(shares) is None)
                for one, two in itertools.product(lots, repeat=2):
                    told = help_of(shares, one, two) < 0
                    self.assertIs(holds_claim(("not kind", text), (one, two)), told)
                    accepted += told
        self.assertGreater(accepted, 50)

    def test_kind_ones_that_do_not_fit(self):
        shares = Shares(("a", "b", "c"), (20, 1, 1, 2, 2, 2, 2, 2))
        self.holds(("kind", shares.text()), ())
        self.holds(("not fit", shares.text()), failing(shares))
        self.refused(("fit", shares.text()), ())

    def test_lots_that_are_not_rising(self):
        self.assertLess(help_of(Shares.read(ODD), ("01",), ("10",)), 0)
        for pair in ((("01",), ("10",)), (("01",), A_LOT), (("01", "10"), ("11",)), (("00",), ("11",))):
            self.refused(("not kind", ODD), pair)
            self.refused(("not kind", LIKE), pair)

    def test_values_that_are_no_pairs_of_lots(self):
        for pair in ([A_LOT, B_LOT], (list(A_LOT), B_LOT), (A_LOT, list(B_LOT)), (A_LOT,), (A_LOT, B_LOT, ()), A_LOT, (),
                     (A_LOT, None), (Sullen(), B_LOT), (A_LOT, Fond()), ("10 11", "01 11"), (("11", "10"), B_LOT), None):
            self.refused(("not kind", ODD), pair)

    def test_four_marks(self):
        for shares in fitting(3, 2, 4) + some(4, 3, 4):
            pair = hindering(shares)
            self.assertIs(holds_claim(("kind", shares.text()), ()), pair is None)
            if pair is not None:
                self.holds(("not kind", shares.text()), pair)


class Above(CheckerCase):
    def test_wrong_couplings_by_hand(self):
        claim = ("above", HIGH, LOW)
        down = (("1", "0", 1),)
        wrong = [
            (), LINKS[1:], LINKS[:2], LINKS[:1] + LINKS[2:],
            LINKS[:2] + LINKS[1:], LINKS + LINKS[2:], LINKS[:1] + down + LINKS[1:],
            LINKS[::-1], (LINKS[1], LINKS[0], LINKS[2]), (LINKS[0], LINKS[2], LINKS[1]),
            (("0", "0", 3), ("0", "1", 0)) + LINKS[1:], (("0", "0", 2), ("0", "1", 1), ("1", "0", 2), ("1", "1", 1)),
            (("0", "0", 3), ("1", "0", 2), ("1", "1", 1)), (("0", "0", 6), ("1", "0", 2), ("1", "1", 4)),
            (("0", "0", 4), ("1", "1", 2)), (("0", "0", 3), ("1", "1", 3)), (("0", "0", -3), ("1", "0", 7), ("1", "1", 2)),
            (("0", "0", 3), ("1", "0", -1), ("1", "1", 4)),
            list(LINKS), tuple(list(link) for link in LINKS), LINKS[:2] + (None,), LINKS[:2] + (Sullen(),), (Fond(),) + LINKS[1:],
            LINKS[:2] + (("1", "1"),), LINKS[:2] + (("1", "1", 2, 2),), LINKS[:2] + (("1", "1", "2"),),
            LINKS[:2] + (("1", "1", None),), (LINKS[0], ("1", "0", True), LINKS[2]), (("0", "00", 3),) + LINKS[1:],
            (("0", 0, 3),) + LINKS[1:], ((0, "0", 3),) + LINKS[1:], LINKS[:2] + (("2", "1", 2),), (("", "", 3),) + LINKS[1:],
            LINKS[:2] + ((Sullen(), "1", 2),), LINKS[:2] + (("1", Fond(), 2),), LINKS[:2] + (("1", "1", Sullen()),),
            {"links": LINKS}, "".join(x + y for x, y, _ in LINKS), None, 6, nested(20),
        ]
        self.holds(claim, LINKS)
        for links in wrong:
            self.refused(claim, links)

    def test_a_number_of_0(self):
        # The sums are as they must be, but each number must be above 0.
        claim = ("above", "marks a\n1: 7", "marks a\n0: 5")
        self.refused(claim, (("0", "0", 0), ("1", "0", 35)))
        self.refused(claim, (("1", "0", 35), ("1", "1", 0)))
        self.refused(claim, (("1", "0", 35), ("1", "1", False)))

    def test_a_row_that_is_not_below(self):
        # The sums are as they must be, but what is told lies the other way round.
        self.refused(("above", LOW, HIGH), (("0", "0", 3), ("0", "1", 1), ("1", "1", 2)))
        self.refused(("above", "marks a\n0: 5", "marks a\n1: 7"), (("0", "1", 35),))
        self.refused(("above", "marks a, b\n01: 1", "marks a, b\n10: 1"), (("01", "10", 1),))
        self.holds(("above", "marks a, b\n11: 1", "marks a, b\n10: 1"), (("11", "10", 1),))

    def test_the_same_pair_twice(self):
        claim = ("above", HIGH, LOW)
        self.refused(claim, (("0", "0", 1), ("0", "0", 2), ("1", "0", 1), ("1", "1", 2)))
        self.refused(claim, (("0", "0", 3), ("1", "0", 1), ("1", "1", 1), ("1", "1", 1)))

    def test_not_above(self):
        for lot in ((), ("0", "1"), ("0",), ["1"], "1", ("1", "1"), ("11",), (1,), None, (None,), Sullen(), 1):
            self.refused(("not above", LOW, HIGH), lot)
        for lot in rising_lots(2):
            self.assertIs(holds_claim(("not above", ODD, LIKE), lot), lot == ("11",))
            self.assertIs(holds_claim(("not above", LIKE, ODD), lot), lot == ("01", "10", "11"))
        # Less share, but not rising.
        self.refused(("not above", HIGH, LOW), ("0",))

    def test_other_marks(self):
        for other in ("marks b\n0: 2\n1: 1", "marks a, b\n00: 2\n01: 1", "marks ab\n0: 2\n1: 1"):
            for certificate in (LINKS, ("1",), ("0",), ()):
                self.refused(("above", HIGH, other), certificate)
                self.refused(("above", other, HIGH), certificate)
                self.refused(("not above", LOW, other), certificate)
                self.refused(("not above", other, HIGH), certificate)
        self.refused(("above", "marks a, b\n00: 1", "marks b, a\n00: 1"), (("00", "00", 1),))
        self.holds(("above", "marks a, b\n00: 1", "marks a, b\n00: 1"), (("00", "00", 1),))

    def test_changed_couplings_of_drawn_shares(self):
        chance = random.Random(5)
        count = 0
        for size in (1, 2, 3, 4):
            for shares, other in itertools.product(mixed(6, size, 2), repeat=2):
                claim, links = ("above", shares.text(), other.text()), coupling(shares, other)
                if links is None:
                    self.holds(("not " + claim[0],) + claim[1:], less_at(shares, other))
                    continue
                count += 1
                self.holds(claim, links)
                place = chance.randrange(len(links))
                upper, lower, number = links[place]
                for changed in ((), ((upper, lower, number + 1),), ((upper, lower, number - 1),), ((lower, upper, number),),
                                ((upper, lower, 1), (upper, lower, number - 1)), (list(links[place]),)):
                    told = links[:place] + changed + links[place + 1:]
                    if told != links:
                        self.refused(claim, told)
                if len(links) > 1:
                    self.refused(claim, links[::-1])
        self.assertGreater(count, 40)

    def test_each_lot_of_drawn_shares(self):
        for size in (1, 2, 3):
            for shares, other in itertools.product(mixed(7, size, 1), repeat=2):
                for lot in rising_lots(size):
                    told = shares.sum_of(lot) * other.total < other.sum_of(lot) * shares.total
                    self.assertIs(holds_claim(("not above", shares.text(), other.text()), lot), told)

    def test_any_coupling_will_do(self):
        first, second = "marks a, b\n01: 1\n10: 1\n11: 2", "marks a, b\n00: 2\n11: 2"
        self.holds(("above", first, second), (("01", "00", 4), ("10", "00", 4), ("11", "11", 8)))
        first, second = "marks a, b\n11: 2", "marks a, b\n01: 1\n10: 1"
        self.holds(("above", first, second), (("11", "01", 2), ("11", "10", 2)))
        # Three couplings of the same claim.
        first, second = "marks a, b\n01: 1\n11: 1", "marks a, b\n00: 1\n01: 1"
        self.holds(("above", first, second), (("01", "00", 2), ("11", "01", 2)))
        self.holds(("above", first, second), (("01", "00", 1), ("01", "01", 1), ("11", "00", 1), ("11", "01", 1)))
        self.holds(("above", first, second), (("01", "01", 2), ("11", "00", 2)))


class NoClaims(CheckerCase):
    def certificates_of(self, word):
        """All certificates of claims of this word, and some more."""
        return [certificate for claim, certificate in RIGHT if claim[0] == word] + [(), -3, ("1",), 0, None]

    def test_values_of_all_kinds(self):
        for claim in odd_values():
            if claim.__class__ is tuple and claim in TRUE_CLAIMS:
                continue
            for certificate in CERTIFICATES + [None, Sullen(), Fond(), nested(20)]:
                self.refused(claim, certificate)

    def test_too_short_and_too_long(self):
        for claim, certificate in RIGHT:
            for many in range(len(claim)):
                self.refused(claim[:many], certificate)
            for more in (None, (), "", LIKE, A_LOT, -3, Sullen(), certificate):
                self.refused(claim + (more,), certificate)
            self.refused((), certificate)
            self.refused((claim,), certificate)
            self.refused((claim, certificate), ())

    def test_lists_in_the_place_of_tuples(self):
        for claim, certificate in RIGHT:
            self.refused(list(claim), certificate)
            if isinstance(certificate, tuple):
                self.refused(claim, list(certificate))
                if certificate and isinstance(certificate[0], tuple):
                    self.refused(claim, tuple(list(part) for part in certificate))
            for place in range(2, len(claim)):
                self.refused(claim[:place] + (list(claim[place]),) + claim[place + 1:], certificate)

    def test_unknown_words(self):
        words = ["", "Fit", "fit ", " fit", "fits", "notfit", "not  fit", "not hinder", "hinders", "help", "below", "kind held",
                 "not not fit", "none", "x" * 4000, "marks"]
        for claim, certificate in RIGHT:
            for word in words + strange() + [0, 1, b"fit", ("fit",), ("hinder",), nested(18)]:
                for told in self.certificates_of(claim[0]):
                    self.refused((word,) + claim[1:], told)

    def test_the_word_of_another_claim(self):
        words = {claim[0] for claim in TRUE_CLAIMS}
        for claim, certificate in RIGHT:
            for word in words - {claim[0]}:
                # What fits is kind, too, and both claims have the same certificate.
                if {word, claim[0]} != {"fit", "kind"}:
                    self.refused((word,) + claim[1:], certificate)

    def test_texts_that_tell_no_shares(self):
        wrong = strange() + ["", "marks", "marks a", "marks a\n", "marks a\n0: 0", "marks a\n0: 1\n", "marks a\n1: 1\n0: 1", "0: 1",
                             "marks a\n0: 01", "marks a\n0: 1\n0: 1", "marks a\n0:1", "marks A\n0: 1", "marks a\n00: 1", 0,
                             "marks a\n0: 1000000000001", "marks a\n0: " + "1" * 60, "marks a\n0: " + "9" * 3985, "\n" * 4000,
                             "marks a, a\n00: 1", "marks a,b\n00: 1", "marks a, b, c, d, e\n00000: 1", "marks a\n0: -1",
                             Shares(("a",), (2, 1)), Shares(("a", "b"), (1, 2, 2, 1)), "marks a\n0: 1\r", "marks a\n0: \u0661",
                             LIKE + " ", " " + LIKE, LIKE.upper(), LIKE.encode(), [LIKE], (LIKE,), "\ud800" * 100]
        for text in wrong:
            for claim, certificate in RIGHT:
                self.refused((claim[0], text) + claim[2:], certificate)
                if claim[0] in ("above", "not above"):
                    self.refused(claim[:2] + (text,), certificate)

    def test_great_integers(self):
        for number in (10 ** 60 - 1, 1 - 10 ** 60):
            self.refused(("hinder", ODD, A_LOT, B_LOT), number)
            self.refused(("above", HIGH, LOW), (("0", "0", number), ("1", "0", 1), ("1", "1", 2)))
            self.refused(("hinder", number, number, number), number)
            self.refused(("fit", number), ())
            self.refused((number, LIKE), ())

    def test_the_same_question_again(self):
        for _ in range(2):
            for claim, certificate in RIGHT:
                self.holds(claim, certificate)
        self.assertEqual(holds_claim.__module__, "wishesrise.checker")
        self.assertTrue(callable(checker.holds_claim))


class Great(CheckerCase):
    def test_numbers_up_to_the_limit(self):
        for shares in full(8, 6, 4, MOST) + [Shares(MARKS, (MOST,) * 16), Shares(MARKS, (MOST,) * 8 + (0,) * 7 + (MOST,))]:
            pair = hindering(shares)
            self.assertIs(holds_claim(("kind", shares.text()), ()), pair is None)
            self.assertIs(holds_claim(("fit", shares.text()), ()), failing(shares) is None)
            if pair is not None:
                worth = help_of(shares, *pair)
                self.holds(("hinder", shares.text()) + pair, worth)
                self.refused(("hinder", shares.text()) + pair, worth - 1)
            top = Shares(MARKS, (0,) * 15 + (MOST,))
            links = tuple(("1111", row, number * MOST) for row, number in zip(all_rows(4), shares.numbers) if number > 0)
            self.assertTrue(all(is_over(upper, lower) for upper, lower, _ in links))
            self.holds(("above", top.text(), shares.text()), links)


if __name__ == "__main__":
    unittest.main()
