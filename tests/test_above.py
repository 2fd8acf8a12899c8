"""Point 11: shares above others, couplings, and the tests of rows two by two."""

import itertools
import random
import unittest
from fractions import Fraction

from tests.helpers import MARKS, MOST, all_rows, fitting, full, is_over, lower_and, rising_lots, some, touched, upper_or
from wishesrise import above
from wishesrise.above import coupling, four, four_sums, is_above, less_at, passes
from wishesrise.shares import Shares

A, AB = ("a",), ("a", "b")
LOW, HIGH = Shares(A, (2, 1)), Shares(A, (1, 1))


def by_row(shares):
    return dict(zip(all_rows(len(shares.marks)), shares.numbers))


def told_less(first, second):
    """All rising lots with less share in the first ones, in their order."""
    one, two = by_row(first), by_row(second)
    return [lot for lot in rising_lots(len(first.marks))
            if Fraction(sum(one[row] for row in lot), first.total) < Fraction(sum(two[row] for row in lot), second.total)]


def told_passes(first, second):
    one, two = by_row(first), by_row(second)
    return all(one[upper_or(x, y)] * two[lower_and(x, y)] >= one[x] * two[y] for x in one for y in two)


def told_four(*shares):
    one, two, three, last = [by_row(each) for each in shares]
    return all(one[x] * two[y] <= three[upper_or(x, y)] * last[lower_and(x, y)] for x in one for y in two)


def sunk(seed, shares):
    """Some shares that the given ones lie above: parts of numbers have gone down to lower rows."""
    chance = random.Random(seed)
    numbers = by_row(shares)
    for _ in range(chance.randint(0, 12)):
        x = chance.choice(list(numbers))
        y = chance.choice([row for row in numbers if is_over(x, row)])
        part = chance.randint(0, numbers[x])
        if numbers[y] + part <= MOST:
            numbers[x] -= part
            numbers[y] += part
    return Shares(shares.marks, tuple(numbers.values()))


def pairs(seed, size, many):
    """Pairs of shares over so many marks, of all kinds: some above, some not, some nearly."""
    chance = random.Random(seed)
    chosen = some(seed, many, size) + full(seed, many, size, 3) + full(seed, many, size, MOST) + fitting(seed, many, size)
    found = [(one, chance.choice(chosen)) for one in chosen]
    lower = [(one, sunk(chance.randrange(MOST), one)) for one in chosen]
    nearly = [(one, touched(chance.randrange(MOST), [two])) for one, two in lower]
    return found + lower + [(one, two[0]) for one, two in nearly if two] + [(two, one) for one, two in lower[::4]]


class Coupled(unittest.TestCase):
    """A test case that looks at couplings whole."""

    def is_coupling(self, first, second, found):
        self.assertIs(found.__class__, tuple)
        one, two = by_row(first), by_row(second)
        outs, ins = dict.fromkeys(one, 0), dict.fromkeys(two, 0)
        for triple in found:
            self.assertIs(triple.__class__, tuple)
            x, y, number = triple
            self.assertIs(number.__class__, int)
            self.assertGreater(number, 0)
            self.assertTrue(is_over(x, y), triple)
            outs[x] += number
            ins[y] += number
        places = [(x, y) for x, y, _ in found]
        self.assertEqual(places, sorted(set(places)))
        self.assertEqual(outs, {row: number * second.total for row, number in one.items()})
        self.assertEqual(ins, {row: number * first.total for row, number in two.items()})

    def against_all_lots(self, first, second):
        told = told_less(first, second)
        self.assertIs(is_above(first, second), told == [])
        self.assertEqual(less_at(first, second), told[0] if told else None)
        found = coupling(first, second)
        if told:
            self.assertIsNone(found)
            self.assertIs(less_at(first, second).__class__, tuple)
        else:
            self.is_coupling(first, second, found)
        return told == []


class Above(Coupled):
    def test_by_hand(self):
        self.assertIs(is_above(HIGH, LOW), True)
        self.assertIs(is_above(LOW, HIGH), False)
        self.assertIsNone(less_at(HIGH, LOW))
        self.assertEqual(less_at(LOW, HIGH), ("1",))
        self.assertEqual(coupling(HIGH, LOW), (("0", "0", 3), ("1", "0", 1), ("1", "1", 2)))
        self.assertIsNone(coupling(LOW, HIGH))
        self.assertIs(is_above(other=LOW, shares=HIGH), True)
        self.assertIsNone(less_at(other=LOW, shares=HIGH))
        self.assertEqual(less_at(shares=LOW, other=HIGH), ("1",))
        self.assertIsNone(coupling(other=HIGH, shares=LOW))
        self.assertEqual(coupling(other=LOW, shares=HIGH), (("0", "0", 3), ("1", "0", 1), ("1", "1", 2)))

    def test_the_first_lot_with_less_share(self):
        # ("10", "11") has less share too, and stands behind.
        first, second = Shares(AB, (3, 1, 1, 1)), Shares(AB, (1, 2, 2, 1))
        self.assertEqual(less_at(first, second), ("01", "10", "11"))
        self.assertEqual(less_at(Shares(AB, (0, 1, 1, 0)), Shares(AB, (1, 0, 0, 1))), ("11",))

    def test_totals_that_are_not_alike(self):
        self.assertIs(is_above(Shares(A, (2, 4)), Shares(A, (1, 2))), True)
        self.assertIs(is_above(Shares(A, (1, 2)), Shares(A, (2, 4))), True)
        self.assertEqual(coupling(Shares(A, (1, 2)), Shares(A, (2, 4))), (("0", "0", 6), ("1", "1", 12)))
        # More of "1", but the lesser share; and the other way round.
        self.assertEqual(less_at(Shares(A, (9, 4)), Shares(A, (1, 2))), ("1",))
        self.assertIs(is_above(Shares(A, (1, 2)), Shares(A, (9, 4))), True)
        self.assertIs(is_above(Shares(A, (MOST, MOST - 1)), Shares(A, (1, 1))), False)
        self.assertIs(is_above(Shares(A, (MOST - 1, MOST)), Shares(A, (1, 1))), True)

    def test_rows_that_cannot_be_reached(self):
        self.assertIsNone(coupling(Shares(AB, (0, 1, 0, 0)), Shares(AB, (0, 0, 1, 0))))
        self.assertEqual(less_at(Shares(AB, (0, 1, 0, 0)), Shares(AB, (0, 0, 1, 0))), ("10", "11"))
        self.assertEqual(coupling(Shares(AB, (0, 0, 0, 1)), Shares(AB, (0, 0, 1, 0))), (("11", "10", 1),))

    def test_all_small_numbers_over_one_mark(self):
        numbers = [pair for pair in itertools.product(range(4), repeat=2) if any(pair)]
        for one, two in itertools.product(numbers, repeat=2):
            self.against_all_lots(Shares(A, one), Shares(A, two))

    def test_all_zeros_and_ones_over_two_marks(self):
        numbers = [each for each in itertools.product(range(2), repeat=4) if any(each)]
        for one, two in itertools.product(numbers, repeat=2):
            self.against_all_lots(Shares(AB, one), Shares(AB, two))

    def test_some(self):
        for size in (1, 2, 3, 4):
            answers = [self.against_all_lots(one, two) for one, two in pairs(1, size, 8)]
            self.assertGreater(answers.count(True), 20)
            self.assertGreater(answers.count(False), 5)

    def test_above_themselves(self):
        for size in (1, 2, 3, 4):
            for shares in some(2, 6, size) + full(3, 3, size, MOST) + [Shares(MARKS[:size], (MOST,) * 2 ** size)]:
                self.assertIs(self.against_all_lots(shares, shares), True)

    def test_great_numbers_of_four_marks(self):
        for seed, shares in enumerate(full(4, 12, 4, MOST)):
            self.assertTrue(self.against_all_lots(shares, sunk(seed, shares)))
        top, ground = Shares(MARKS, (0,) * 15 + (MOST,)), Shares(MARKS, (MOST,) + (0,) * 15)
        even = Shares(MARKS, (MOST,) * 16)
        self.assertEqual(coupling(top, ground), (("1111", "0000", MOST * MOST),))
        self.assertEqual([number for _, _, number in coupling(top, even)], [MOST * MOST] * 16)
        self.assertIsNone(coupling(even, top))
        self.assertTrue(self.against_all_lots(even, ground))

    def test_less_by_a_single_one(self):
        one = (MOST,) * 15 + (MOST - 1,)
        self.assertEqual(less_at(Shares(MARKS, one), Shares(MARKS, (MOST,) * 16)), tuple(all_rows(4)[1:]))
        self.assertIsNone(coupling(Shares(MARKS, one), Shares(MARKS, (MOST,) * 16)))
        self.assertTrue(self.against_all_lots(Shares(MARKS, (MOST,) * 16), Shares(MARKS, one)))

    def test_rows_that_have_to_make_room(self):
        # What goes down first fills rows that upper ones further on need.
        for size in (2, 3, 4):
            rows = all_rows(size)
            for seed in range(30):
                chance = random.Random(seed)
                first, second = dict.fromkeys(rows, 0), dict.fromkeys(rows, 0)
                for _ in range(chance.randint(1, 3 * size)):
                    x = chance.choice(rows)
                    y = chance.choice([row for row in rows if is_over(x, row)])
                    number = chance.choice([1, 1, 2, 5])
                    first[x] += number
                    second[y] += number
                one, two = [Shares(MARKS[:size], tuple(table.values())) for table in (first, second)]
                self.assertTrue(self.against_all_lots(one, two))


class TwoByTwo(Coupled):
    def test_by_hand(self):
        self.assertIs(passes(HIGH, LOW), True)
        self.assertIs(passes(LOW, HIGH), False)
        self.assertIs(passes(other=LOW, shares=HIGH), True)
        self.assertIs(passes(Shares(AB, (1, 2, 2, 1)), Shares(AB, (1, 2, 2, 1))), False)
        self.assertIs(is_above(Shares(AB, (1, 2, 2, 1)), Shares(AB, (1, 2, 2, 1))), True)
        # Only if the upper row is looked at behind the lower one, too.
        self.assertIs(passes(Shares(AB, (0, 1, 0, 0)), Shares(AB, (0, 0, 1, 0))), False)
        self.assertIs(passes(Shares(AB, (0, 0, 1, 0)), Shares(AB, (0, 1, 0, 0))), False)

    def test_against_all_pairs(self):
        for size in (1, 2, 3, 4):
            answers = []
            for one, two in pairs(5, size, 6):
                told = told_passes(one, two)
                self.assertIs(passes(one, two), told)
                self.assertIs(four(one, two, one, two), told)
                if told:
                    self.assertIs(is_above(one, two), True)
                answers.append(told)
            self.assertIn(True, answers)
            self.assertIn(False, answers)

    def test_it_passes_above_itself_if_it_fits(self):
        for size in (1, 2, 3, 4):
            for shares in fitting(6, 5, size):
                self.assertIs(passes(shares, shares), True)


class Four(unittest.TestCase):
    def test_by_hand(self):
        one, two = Shares(A, (1, 2)), Shares(A, (3, 4))
        # 0 0: 3 <= 3; 0 1: 4 <= 4 * 1; 1 0: 6 <= 4 * 3; 1 1: 8 <= 8.
        self.assertIs(four(one, two, Shares(A, (1, 4)), Shares(A, (3, 2))), True)
        self.assertIs(four(one, two, Shares(A, (1, 4)), Shares(A, (2, 2))), False)
        self.assertIs(four(one, two, Shares(A, (1, 3)), Shares(A, (3, 3))), True)
        self.assertIs(four(one, two, Shares(A, (1, 3)), Shares(A, (1, 3))), False)
        self.assertIs(four(fourth=Shares(A, (3, 2)), third=Shares(A, (1, 4)), other=two, shares=one), True)
        # The order of the rows counts: only "1" in the first beside "0" in the second fails, or the other way round.
        zero, lone = Shares(A, (1, 0)), Shares(A, (0, 1))
        self.assertIs(four(lone, zero, zero, lone), False)
        self.assertIs(four(zero, lone, zero, lone), False)
        self.assertIs(four(lone, zero, lone, zero), True)
        self.assertIs(four(zero, lone, lone, zero), True)
        self.assertIs(four(zero, zero, lone, lone), False)

    def sets_of_four(self, size):
        chance = random.Random(size)
        chosen = some(7, 8, size) + full(8, 8, size, 3) + fitting(9, 8, size)
        found = [tuple(chance.choice(chosen) for _ in range(4)) for _ in range(25)]
        great = Shares(MARKS[:size], (MOST,) * 2 ** size)
        found += [(one, two, great, great) for one, two, _, _ in found[:8]]
        found += [(shares, shares, shares, shares) for shares in fitting(10, 8, size)]
        return found

    def test_against_all_pairs_of_rows(self):
        for size in (1, 2, 3, 4):
            answers = [told_four(*shares) for shares in self.sets_of_four(size)]
            self.assertIn(True, answers)
            self.assertIn(False, answers)
            self.assertEqual([four(*shares) for shares in self.sets_of_four(size)], answers)

    def test_one_too_many_for_each_pair_of_rows(self):
        # All products are alike but one, for each two rows in turn.
        for size in (1, 2):
            for x, y in itertools.product(range(2 ** size), repeat=2):
                one, two = [2] * 2 ** size, [2] * 2 ** size
                one[x] = two[y] = 3
                even = Shares(MARKS[:size], (2,) * 2 ** size)
                first, second = Shares(MARKS[:size], tuple(one)), Shares(MARKS[:size], tuple(two))
                self.assertIs(four(first, second, Shares(MARKS[:size], (4,) * 2 ** size), even), False)
                self.assertIs(four(first, second, Shares(MARKS[:size], (3,) * 2 ** size),
                                   Shares(MARKS[:size], (3,) * 2 ** size)), True)


class FourSums(unittest.TestCase):
    def test_by_hand(self):
        one, two, three, last = [Shares(AB, numbers) for numbers in
                                 ((1, 2, 3, 4), (5, 6, 7, 8), (10, 20, 30, 40), (50, 60, 70, 80))]
        self.assertEqual(four_sums(one, two, three, last, ("01",), ("10",)), (2 * 7, 40 * 50))
        # All ors are "11" or "01", all ands "00" or "01"; each counts once, however many pairs give it.
        self.assertEqual(four_sums(one, two, three, last, ("00", "01"), ("01", "10", "11")),
                         (3 * 21, (20 + 30 + 40) * (50 + 60)))
        self.assertEqual(four_sums(one, two, three, last, ("01", "10"), ("01", "10")), (25 + 40, 90 * 180))
        self.assertEqual(four_sums(two=("10",), one=("01",), fourth=last, third=three, other=two, shares=one), (14, 2000))

    def test_the_empty_lot(self):
        one, two = Shares(AB, (1, 2, 3, 4)), Shares(AB, (5, 6, 7, 8))
        for lot in ((), ("01",), ("00", "01", "10", "11")):
            self.assertEqual(four_sums(one, two, one, two, (), lot), (0, 0))
            self.assertEqual(four_sums(one, two, one, two, lot, ()), (0, 0))

    def test_all_lots_over_two_marks(self):
        rows = all_rows(2)
        lots = [lot for many in range(5) for lot in itertools.combinations(rows, many)]
        shares = full(11, 4, 2, 9)
        for one, two in itertools.product(lots, repeat=2):
            self.against_sums(shares, one, two)

    def against_sums(self, shares, one, two):
        first, second, third, last = [by_row(each) for each in shares]
        ors = {upper_or(x, y) for x in one for y in two}
        ands = {lower_and(x, y) for x in one for y in two}
        told = (sum(first[x] for x in one) * sum(second[y] for y in two),
                sum(third[row] for row in ors) * sum(last[row] for row in ands))
        found = four_sums(*shares, one, two)
        self.assertEqual(found, told)
        self.assertIs(found.__class__, tuple)
        return found

    def test_some_and_that_four_shows_it(self):
        chance = random.Random(12)
        shown = 0
        for size in (1, 2, 3, 4):
            chosen = some(13, 8, size) + fitting(14, 8, size)
            sets = [[chance.choice(chosen) for _ in range(4)] for _ in range(10)]
            for shares in sets + [[each] * 4 for each in chosen]:
                holds = four(*shares)
                for _ in range(6):
                    one, two = [tuple(row for row in all_rows(size) if chance.random() < 0.4) for _ in "ab"]
                    least, most = self.against_sums(shares, one, two)
                    if holds:
                        shown += 1
                        self.assertLessEqual(least, most)
        self.assertGreater(shown, 60)


class Whole(unittest.TestCase):
    def test_nothing_is_altered_and_the_same_again(self):
        first, second, lot = Shares(AB, (1, 2, 3, 4)), Shares(AB, (4, 3, 2, 1)), ("01", "11")
        for _ in range(2):
            self.assertIs(is_above(first, second), True)
            self.assertIsNone(less_at(first, second))
            self.assertEqual(coupling(first, second), coupling(Shares(AB, (1, 2, 3, 4)), second))
            self.assertIs(passes(first, second), told_passes(first, second))
            self.assertIs(four(first, second, first, second), told_passes(first, second))
            self.assertEqual(four_sums(first, second, first, second, lot, lot), (6 * 4, 6 * 4))
            self.assertEqual((first.marks, first.numbers, second.marks, second.numbers, lot),
                             (AB, (1, 2, 3, 4), AB, (4, 3, 2, 1), ("01", "11")))

    def test_each_function_is_defined_here(self):
        for name in ("is_above", "less_at", "coupling", "passes", "four", "four_sums"):
            self.assertEqual(getattr(above, name).__module__, "wishesrise.above")


if __name__ == "__main__":
    unittest.main()
