"""The whole document: the promises of point 2 on drawn shares, and what holds of all modules."""

import inspect
import itertools
import random
import unittest
from fractions import Fraction

from tests.helpers import MARKS, MOST, Case, all_rows, fitting, is_over, mixed, rising_lots
from wishesrise import above, apart, certificates, checker, consoles, desks, fitting as fitting_module, helping, holding, lots, making
from wishesrise import samples, shares as shares_module, tallies
from wishesrise.above import coupling, four, four_sums, is_above, less_at, passes
from wishesrise.apart import helping_apart, hinders_apart
from wishesrise.certificates import certify_above, certify_fit, certify_hindering, certify_kind
from wishesrise.checker import holds_claim
from wishesrise.desks import Desk, tried
from wishesrise.fitting import climbs, failing, fits, near_failing, room
from wishesrise.helping import help_of, hindering, is_kind, most_hindering
from wishesrise.holding import held, hindering_held, is_kind_held, seen
from wishesrise.making import beside, mixed as mixed_shares, of_ties
from wishesrise.shares import Shares
from wishesrise.tallies import Tally

# Each module of the interface with its functions and classes, and their parameters as they stand there.
INTERFACE = {
    shares_module: {"Shares": "marks, numbers"},
    lots: {"rows_of": "marks", "is_rising": "marks, one", "rising": "marks, rows", "least_rows": "marks, one", "all_rising": "marks"},
    helping: {"help_of": "shares, one, two", "hindering": "shares", "is_kind": "shares", "most_hindering": "shares"},
    fitting_module: {"fits": "shares", "failing": "shares", "near_failing": "shares", "climbs": "shares", "room": "shares, row"},
    holding: {"held": "shares, mark, sign", "seen": "shares, marks", "is_kind_held": "shares", "hindering_held": "shares"},
    above: {"is_above": "shares, other", "less_at": "shares, other", "coupling": "shares, other", "passes": "shares, other",
            "four": "shares, other, third, fourth", "four_sums": "shares, other, third, fourth, one, two"},
    apart: {"hinders_apart": "shares", "helping_apart": "shares"},
    making: {"beside": "shares, other", "mixed": "shares, other", "of_ties": "marks, ties"},
    tallies: {"Tally": "marks", "attempt": "tally, act"},
    desks: {"Desk": "shares", "tried": "desk, act"},
    checker: {"holds_claim": "claim, certificate"},
    certificates: {"certify_hindering": "shares, one, two", "certify_fit": "shares", "certify_kind": "shares",
                   "certify_above": "shares, other"},
    consoles: {"Console": "shares"},
    samples: {"like": "", "odd": "", "lamps": ""},
}
METHODS = {
    shares_module.Shares: {"number": "row", "sum_of": "one", "share_of": "one", "text": "", "read": "text", "__len__": "", "__str__": ""},
    tallies.Tally: {"__len__": "", "as_shares": "", "number": "row", "do": "deed", "do_all": "deeds, *, watch=None", "undo": "",
                    "trial": ""},
    desks.Desk: {"__len__": "", "put": "row, number", "promise": "promise", "lift": "index", "undo": "", "trial": ""},
    consoles.Console: {"say": "line"},
}


def parameters(called):
    """The parameters of a function, as they are written."""
    return str(inspect.signature(called))[1:-1]


class Interface(unittest.TestCase):
    def test_functions_and_classes(self):
        for module, names in INTERFACE.items():
            for name, told in names.items():
                found = getattr(module, name)
                self.assertEqual(found.__module__, module.__name__, name)
                self.assertEqual(parameters(found), told, name)

    def test_methods(self):
        for of, names in METHODS.items():
            for name, told in names.items():
                self.assertIn(name, vars(of))
                found = parameters(getattr(of, name))
                self.assertEqual(found if name == "read" else found.removeprefix("self").removeprefix(", "), told, name)


class AllLots(unittest.TestCase):
    """What is told for all rising lots is so for each of them, and a pair or lot that is told speaks against it."""

    def test_kind_and_hindering(self):
        for size in (1, 2, 3):
            lots_of_size = rising_lots(size)
            for shares in mixed(1, size, 6):
                worths = {(one, two): help_of(shares, one, two) for one in lots_of_size for two in lots_of_size if one <= two}
                bad = [pair for pair in sorted(worths) if worths[pair] < 0]
                self.assertIs(is_kind(shares), not bad)
                self.assertEqual(hindering(shares), bad[0] if bad else None)
                self.assertEqual(most_hindering(shares), min(bad, key=lambda pair: (worths[pair], pair)) if bad else None)
                for one, two in itertools.product(lots_of_size, repeat=2):
                    self.assertEqual(certify_hindering(shares, one, two) is None, help_of(shares, one, two) >= 0)

    def test_what_fits_is_kind_however_marks_are_held_and_seen(self):
        for size in (1, 2, 3, 4):
            for shares in fitting(2, 6, size):
                self.assertIs(fits(shares), True)
                self.assertIs(is_kind(shares), True)
                self.assertIs(is_kind_held(shares), True)
                self.assertIsNone(hindering_held(shares))
                self.assertIsNone(near_failing(shares))
                self.assertIs(climbs(shares), True)
                for many in range(1, size + 1):
                    for marks in itertools.combinations(shares.marks, many):
                        if all(number <= MOST for number in shares.numbers) and shares.total <= MOST:
                            self.assertIs(fits(seen(shares, marks)), True)

    def test_above_and_less(self):
        for size in (1, 2, 3):
            for shares, other in itertools.product(mixed(3, size, 2), repeat=2):
                less = [lot for lot in rising_lots(size) if Fraction(*shares.share_of(lot)) < Fraction(*other.share_of(lot))]
                self.assertIs(is_above(shares, other), not less)
                self.assertEqual(less_at(shares, other), less[0] if less else None)
                if passes(shares, other):
                    self.assertEqual(less, [])

    def test_four_products_and_their_sums(self):
        lots_of_two = [lot for many in range(5) for lot in itertools.combinations(all_rows(2), many)]
        for shares in fitting(4, 6, 2):
            self.assertIs(four(shares, shares, shares, shares), True)
            for one, two in itertools.product(lots_of_two, repeat=2):
                first, second = four_sums(shares, shares, shares, shares, one, two)
                self.assertLessEqual(first, second)

    def test_apart(self):
        for size in (2, 3):
            for shares in mixed(5, size, 6):
                found = helping_apart(shares)
                self.assertIs(hinders_apart(shares), found is None)
                if found is not None:
                    group, one, two = found
                    places = [shares.marks.index(mark) for mark in group]
                    others = [place for place in range(size) if place not in places]
                    first = tuple(row for row in all_rows(size) if "".join(row[k] for k in places) in one)
                    second = tuple(row for row in all_rows(size) if "".join(row[k] for k in others) in two)
                    self.assertGreater(help_of(shares, first, second), 0)

    def test_beside_one_another_nothing_helps_or_hinders(self):
        for one, two in itertools.product(fitting(6, 4, 2), repeat=2):
            small = [Shares(marks, tuple(number % 1000 for number in shares.numbers[:-1]) + (7,))
                     for marks, shares in ((("a", "b"), one), (("c", "d"), two))]
            both = beside(*small)
            for first in rising_lots(2):
                for second in rising_lots(2):
                    lots_over_all = [tuple(row for row in all_rows(4) if row[:2] in first),
                                     tuple(row for row in all_rows(4) if row[2:] in second)]
                    self.assertEqual(help_of(both, *lots_over_all), 0)
            self.assertIs(is_kind(both), is_kind(small[0]) and is_kind(small[1]))


class WholeNumbers(unittest.TestCase):
    def test_one_more_or_less_at_the_limit(self):
        exact = Shares(("a", "b"), (MOST, MOST, MOST, MOST))
        for place, kind in ((0, False), (1, True), (2, True), (3, False)):
            numbers = list(exact.numbers)
            numbers[place] -= 1
            shares = Shares(exact.marks, tuple(numbers))
            self.assertEqual((fits(shares), is_kind(shares)), (kind, kind))
            self.assertIs(fits(exact) and is_kind(exact), True)
        row_numbers = (MOST - 1, MOST - 1, MOST, MOST)
        # (MOST - 1) * MOST on either side.
        self.assertIs(fits(Shares(exact.marks, row_numbers)), True)
        self.assertEqual(room(Shares(exact.marks, (MOST - 1, MOST - 2, MOST, 5)), "11")[0], MOST - 1)

    def test_shares_are_fractions(self):
        for shares in mixed(7, 3, 10):
            for lot in rising_lots(3):
                top, bottom = shares.share_of(lot)
                self.assertEqual(Fraction(top, bottom), Fraction(shares.sum_of(lot), shares.total))
                self.assertEqual((Fraction(top, bottom).numerator, Fraction(top, bottom).denominator), (top, bottom))


class Couplings(unittest.TestCase):
    def test_exactly_if_above(self):
        counts = {True: 0, False: 0}
        for size in (1, 2, 3, 4):
            for shares, other in itertools.product(mixed(8, size, 1 if size == 4 else 2), repeat=2):
                links = coupling(shares, other)
                self.assertIs(links is not None, is_above(shares, other))
                counts[links is not None] += 1
                if links is None:
                    continue
                self.assertEqual(list(links), sorted(links))
                self.assertEqual(len({link[:2] for link in links}), len(links))
                self.assertTrue(all(is_over(upper, lower) and number > 0 for upper, lower, number in links))
                for row in all_rows(size):
                    sent = sum(number for upper, _, number in links if upper == row)
                    taken = sum(number for _, lower, number in links if lower == row)
                    self.assertEqual(sent, shares.number(row) * other.total)
                    self.assertEqual(taken, other.number(row) * shares.total)
        self.assertGreater(min(counts.values()), 60)


class Desks(Case):
    def test_after_each_change_all_promises_hold(self):
        chance = random.Random(9)
        for size in (1, 2, 3):
            desk = Desk(of_ties(MARKS[:size], ()))
            for promise in (("fits",), ("kind",), ("kind held",), ("above", desk.shares)):
                desk.promise(promise)
            lots_of_size = rising_lots(size)
            desk.promise(("helps", chance.choice(lots_of_size), chance.choice(lots_of_size)))
            low, changed = desk.shares, 0
            for _ in range(80):
                row, number = chance.choice(all_rows(size)), chance.randint(0, 4)
                try:
                    if chance.random() < 0.2:
                        tried(desk, lambda desk: desk.put(row, number))
                    desk.put(row, number)
                    changed += 1
                except LookupError:
                    pass
                if chance.random() < 0.1 and len(desk) > 5:
                    desk.undo()
                self.assertEqual(len(desk.promises), 5)
                self.assertTrue(fits(desk.shares) and is_kind(desk.shares) and is_kind_held(desk.shares))
                self.assertTrue(is_above(desk.shares, low))
                self.assertGreaterEqual(help_of(desk.shares, *desk.promises[4][1:]), 0)
            self.assertGreater(changed, 0)


class Checker(unittest.TestCase):
    def claims(self, shares, other):
        """The claims of the program about two Shares, with their certificates."""
        found = [certify_fit(shares), certify_kind(shares), certify_above(shares, other)]
        pair = most_hindering(shares)
        return found if pair is None else found + [certify_hindering(shares, *pair)]

    def test_each_claim_of_the_program(self):
        words = set()
        for size in (1, 2, 3, 4):
            chosen = mixed(10, size, 3 if size < 4 else 1)
            for shares, other in zip(chosen, chosen[1:] + chosen[:1]):
                for claim, certificate in self.claims(shares, other):
                    words.add(claim[0])
                    self.assertIs(holds_claim(claim, certificate), True)
        self.assertEqual(words, {"fit", "not fit", "kind", "not kind", "above", "not above", "hinder"})

    def test_only_true_claims(self):
        chosen = mixed(11, 2, 2)
        certificates_told = [certificate for shares, other in itertools.product(chosen, repeat=2)
                             for _, certificate in self.claims(shares, other)]
        for shares, other in zip(chosen, chosen[1:]):
            text, more = shares.text(), other.text()
            truths = {("fit", text): fits(shares), ("not fit", text): not fits(shares), ("kind", text): is_kind(shares),
                      ("not kind", text): not is_kind(shares), ("above", text, more): is_above(shares, other),
                      ("not above", text, more): not is_above(shares, other)}
            for one, two in itertools.product(rising_lots(2), repeat=2):
                truths["hinder", text, one, two] = help_of(shares, one, two) < 0
            for claim, truth in truths.items():
                if not truth:
                    self.assertFalse(any(holds_claim(claim, certificate) for certificate in certificates_told), claim)


class Together(unittest.TestCase):
    def test_tallies_give_shares(self):
        tally = Tally(("a", "b"))
        tally.do_all((("00", 2), ("01", 1), ("10", 1), ("11", 2)))
        self.assertEqual(tally.as_shares(), samples.like())
        self.assertEqual(mixed_shares(samples.like(), samples.odd()).numbers, (3, 3, 3, 3))
        self.assertEqual(held(tally.as_shares(), "a", "1").numbers, (1, 2))
        self.assertIsNone(failing(of_ties(("a", "b", "c"), (("a", "b", 2), ("b", "c", 3)))))


if __name__ == "__main__":
    unittest.main()
