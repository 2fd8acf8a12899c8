"""Point 10: holding marks, seeing some marks alone."""

import itertools
import unittest

from tests.helpers import MARKS, MOST, Case, all_rows, fitting, full, mixed, some, touched
from wishesrise import holding
from wishesrise.errors import NoShares
from wishesrise.fitting import fits
from wishesrise.helping import hindering, is_kind
from wishesrise.holding import held, hindering_held, is_kind_held, seen
from wishesrise.shares import Shares

ABC = ("a", "b", "c")


def told_held(shares, place, sign):
    """The marks and numbers of what is left when one mark is held."""
    rows = all_rows(len(shares.marks))
    numbers = tuple(number for row, number in zip(rows, shares.numbers) if row[place] == sign)
    return shares.marks[:place] + shares.marks[place + 1:], numbers


def told_seen(shares, places):
    """The marks and sums of some marks alone."""
    rows = all_rows(len(shares.marks))
    sums = [sum(number for row, number in zip(rows, shares.numbers) if "".join(row[k] for k in places) == few)
            for few in all_rows(len(places))]
    return tuple(shares.marks[k] for k in places), tuple(sums)


def told_ways(shares):
    """All ways to hold marks, in their order, each with the Shares that are left."""
    for many in range(len(shares.marks)):
        for marks in itertools.combinations(shares.marks, many):
            for signs in itertools.product("01", repeat=many):
                holds = tuple(zip(marks, signs))
                try:
                    left = shares
                    for mark, sign in holds:
                        left = held(left, mark, sign)
                except NoShares:
                    continue
                yield holds, left


class Held(Case):
    def test_by_hand(self):
        shares = Shares(("lamp", "door"), (3, 1, 0, 2))
        self.assertEqual(held(shares, "lamp", "0"), Shares(("door",), (3, 1)))
        self.assertEqual(held(shares, "lamp", "1"), Shares(("door",), (0, 2)))
        self.assertEqual(held(shares, "door", "0"), Shares(("lamp",), (3, 0)))
        self.assertEqual(held(shares, "door", "1"), Shares(("lamp",), (1, 2)))
        self.assertEqual(held(shares=shares, mark="door", sign="1"), Shares(("lamp",), (1, 2)))
        self.assertEqual(held(sign="0", shares=shares, mark="lamp"), Shares(("door",), (3, 1)))

    def test_each_mark_with_both_signs(self):
        nothing = 0
        for size in (2, 3, 4):
            for shares in mixed(1, size, 8) + [Shares(MARKS[:size], (0,) * (2 ** size - 1) + (MOST,))]:
                for place, mark in enumerate(shares.marks):
                    for sign in "01":
                        marks, numbers = told_held(shares, place, sign)
                        if any(numbers):
                            found = held(shares, mark, sign)
                            self.assertIs(found.__class__, Shares)
                            self.assertEqual((found.marks, found.numbers), (marks, numbers))
                        else:
                            nothing += 1
                            self.fails("NoShares", None, held, shares, mark, sign)
        self.assertGreater(nothing, 5)

    def test_one_mark_alone(self):
        for numbers in ((1, 2), (0, 2), (1, 0)):
            for sign in "01":
                self.fails("NoShares", None, held, Shares(("a",), numbers), "a", sign)
                self.fails("NoShares", None, held, sign=sign, mark="a", shares=Shares(("a",), numbers))

    def test_numbers_all_0(self):
        self.fails("NoShares", None, held, Shares(("a", "b"), (3, 1, 0, 0)), "a", "1")
        self.assertEqual(held(Shares(("a", "b"), (3, 1, 0, 0)), "a", "0"), Shares(("b",), (3, 1)))
        self.fails("NoShares", None, held, Shares(("a", "b"), (0, 1, 0, 5)), "b", "0")

    def test_two_marks_one_after_the_other(self):
        for shares in full(2, 6, 4, MOST) + full(3, 6, 3, 3):
            rows = all_rows(len(shares.marks))
            for one, two in itertools.permutations(range(len(shares.marks)), 2):
                for first, second in itertools.product("01", repeat=2):
                    found = held(held(shares, shares.marks[one], first), shares.marks[two], second)
                    numbers = tuple(number for row, number in zip(rows, shares.numbers)
                                    if row[one] == first and row[two] == second)
                    marks = tuple(mark for k, mark in enumerate(shares.marks) if k not in (one, two))
                    self.assertEqual((found.marks, found.numbers), (marks, numbers))
                    self.assertEqual(found, held(held(shares, shares.marks[two], second), shares.marks[one], first))


class Seen(Case):
    def test_by_hand(self):
        shares = Shares(("lamp", "door"), (3, 1, 0, 2))
        self.assertEqual(seen(shares, ("lamp",)), Shares(("lamp",), (4, 2)))
        self.assertEqual(seen(shares, ("door",)), Shares(("door",), (3, 3)))
        self.assertEqual(seen(shares, ("lamp", "door")), shares)
        self.assertEqual(seen(shares=shares, marks=("lamp",)), Shares(("lamp",), (4, 2)))
        self.assertEqual(seen(marks=("a", "c"), shares=Shares(ABC, (1, 2, 3, 4, 5, 6, 7, 8))),
                         Shares(("a", "c"), (4, 6, 12, 14)))

    def test_all_lots_of_marks_in_their_order(self):
        too_great = 0
        for size in (1, 2, 3, 4):
            for shares in mixed(4, size, 8) + [Shares(MARKS[:size], (MOST,) * 2 ** size)]:
                for many in range(1, size + 1):
                    for places in itertools.combinations(range(size), many):
                        marks, sums = told_seen(shares, places)
                        index = next((k for k, number in enumerate(sums) if number > MOST), None)
                        if index is not None:
                            too_great += 1
                            self.fails("InvalidNumbers", index, seen, shares, marks)
                            continue
                        found = seen(shares, marks)
                        self.assertIs(found.__class__, Shares)
                        self.assertEqual((found.marks, found.numbers), (marks, sums))
                        self.assertEqual(found.total, shares.total)
        self.assertGreater(too_great, 40)

    def test_sums_at_the_edge(self):
        self.assertEqual(seen(Shares(("a", "b"), (MOST - 1, 1, 0, MOST)), ("a",)).numbers, (MOST, MOST))
        self.fails("InvalidNumbers", 0, seen, Shares(("a", "b"), (MOST - 1, 2, 0, MOST)), ("a",))
        self.fails("InvalidNumbers", 0, seen, Shares(("a", "b"), (MOST, 1, 1, MOST)), ("a",))
        self.fails("InvalidNumbers", 1, seen, Shares(("a", "b"), (MOST, 0, 1, MOST)), ("a",))
        self.fails("InvalidNumbers", 1, seen, Shares(("a", "b"), (MOST, 1, 0, MOST)), marks=("b",))
        self.fails("InvalidNumbers", 3, seen, Shares(ABC, (0, 0, 0, 0, 0, 0, MOST, MOST)), ("a", "b"))

    def test_seeing_twice(self):
        for shares in some(5, 40, 4):
            if shares.total <= MOST:
                self.assertEqual(seen(seen(shares, ("a", "bc", "ghijklmn")), ("a", "ghijklmn")),
                                 seen(shares, ("a", "ghijklmn")))


class HinderingHeld(unittest.TestCase):
    def test_by_hand(self):
        odd = Shares(("a", "b"), (1, 2, 2, 1))
        self.assertEqual(hindering_held(odd), ((), (("01", "11"), ("10", "11"))))
        self.assertIs(is_kind_held(odd), False)
        self.assertIsNone(hindering_held(Shares(("a", "b"), (2, 1, 1, 2))))
        self.assertIs(is_kind_held(Shares(("a", "b"), (2, 1, 1, 2))), True)
        self.assertIsNone(hindering_held(shares=Shares(("a",), (0, 1))))
        self.assertIs(is_kind_held(shares=Shares(("a",), (0, 1))), True)

    def test_kind_but_not_if_a_mark_is_held(self):
        # It hinders where "b" is there, and where "c" is; where "a" is held, with no sign.
        shares = Shares(ABC, (20, 1, 1, 2, 2, 2, 2, 2))
        self.assertIs(is_kind(shares), True)
        self.assertIs(is_kind_held(shares), False)
        self.assertEqual(hindering_held(shares), ((("b", "1"),), (("01", "11"), ("10", "11"))))
        for mark, kind in (("a", True), ("b", False), ("c", False)):
            self.assertIs(is_kind(held(shares, mark, "0")), True)
            self.assertIs(is_kind(held(shares, mark, "1")), kind)

    def against_all_ways(self, shares):
        """Check against all ways gone through, and return how many marks are held in the first one, None for none."""
        told = next(((holds, hindering(left)) for holds, left in told_ways(shares) if hindering(left) is not None), None)
        found = hindering_held(shares)
        self.assertEqual(found, told)
        self.assertIs(is_kind_held(shares), told is None)
        if told is None:
            return None
        self.assertTrue(all(part.__class__ is tuple for part in (found, found[0], found[1]) + found[0]))
        return len(told[0])

    def test_all_ways_gone_through(self):
        chosen = [shares for size in (1, 2, 3) for shares in mixed(6, size, 25)] + mixed(7, 4, 4)
        counts = [self.against_all_ways(shares) for shares in chosen]
        self.assertIn(None, counts)
        self.assertIn(0, counts)

    def test_ways_that_hold_marks(self):
        # Kind ones that do not fit: of numbers above 0, some way to hold marks shows it.
        chosen = [shares for size in (3, 4) for shares in touched(8, touched(9, fitting(10, 150, size)))]
        chosen = [shares for shares in chosen if is_kind(shares) and not fits(shares)]
        counts = [self.against_all_ways(shares) for shares in chosen]
        self.assertGreater(len([many for many in counts if many == 1]), 5)
        self.assertGreater(len([many for many in counts if many == 2]), 0)

    def test_several_ways_with_as_many_marks(self):
        # Both signs of each mark hinder when held: the first mark and "0" come first.
        numbers = [0] * 16
        for row in ("0000", "1111"):
            numbers[int(row, 2)] = 1000
        for row in all_rows(4):
            numbers[int(row, 2)] += 3 if row.count("1") == 2 else 1
        shares = Shares(("d", "c", "b", "a"), tuple(numbers))
        self.assertIs(is_kind(shares), True)
        self.assertEqual(self.against_all_ways(shares), 2)
        self.assertEqual(hindering_held(shares)[0], (("d", "0"), ("c", "1")))

    def test_numbers_above_0_fit_exactly_if_kind_however_marks_are_held(self):
        for size in (1, 2, 3, 4):
            chosen = fitting(11, 15, size)
            for shares in full(12, 15, size, 3) + chosen + touched(13, chosen):
                if min(shares.numbers) > 0:
                    self.assertIs(is_kind_held(shares), fits(shares))

    def test_where_there_are_no_shares_nothing_is_asked(self):
        self.assertIs(is_kind_held(Shares(ABC, (1, 0, 0, 0, 0, 0, 0, 0))), True)
        self.assertIs(is_kind_held(Shares(MARKS, (0,) * 15 + (1,))), True)


class Whole(unittest.TestCase):
    def test_nothing_is_altered(self):
        shares, marks = Shares(ABC, (20, 1, 1, 2, 2, 2, 2, 2)), ("a", "c")
        for _ in range(2):
            self.assertEqual(held(shares, "b", "1").numbers, (1, 2, 2, 2))
            self.assertEqual(seen(shares, marks).numbers, (21, 3, 4, 4))
            self.assertEqual(hindering_held(shares)[0], (("b", "1"),))
            self.assertEqual((shares.marks, shares.numbers, marks), (ABC, (20, 1, 1, 2, 2, 2, 2, 2), ("a", "c")))

    def test_each_function_is_defined_here(self):
        for name in ("held", "seen", "is_kind_held", "hindering_held"):
            self.assertEqual(getattr(holding, name).__module__, "wishesrise.holding")


if __name__ == "__main__":
    unittest.main()
