"""Desks: points 2 to 5 and 9 to 11, as wishesrise.desks speaks of them; their trials are tested in test_trials."""

import random
import unittest

from tests.helpers import MARKS, MOST, Case, Fond, Sullen, all_rows, fitting, is_over, lower_and, mixed, nested, no_shares
from tests.helpers import rising_lots, strange, told_help, upper_or
from wishesrise.above import is_above
from wishesrise.desks import Desk, tried
from wishesrise.errors import Broken
from wishesrise.holding import held
from wishesrise.shares import Shares

A, AB, ABC = ("a",), ("a", "b"), ("a", "b", "c")
LIKE, ODD = Shares(AB, (2, 1, 1, 2)), Shares(AB, (1, 2, 2, 1))
ALONE = (("fits",), ("kind",), ("kind held",))


def told_fits(shares):
    """Whether shares fit, by all pairs of rows gone through."""
    numbers = dict(zip(all_rows(len(shares.marks)), shares.numbers))
    for x in numbers:
        for y in numbers:
            if numbers[upper_or(x, y)] * numbers[lower_and(x, y)] < numbers[x] * numbers[y]:
                return False
    return True


def told_kind(shares):
    """Whether shares are kind, by all pairs of rising lots gone through."""
    lots = rising_lots(len(shares.marks))
    return all(told_help(shares, one, two) >= 0 for one in lots for two in lots)


def told_kind_held(shares):
    """Whether shares are kind however marks are held, by one mark held after the other."""
    if not told_kind(shares):
        return False
    for mark in shares.marks:
        for sign in "01":
            rows = [row for row in all_rows(len(shares.marks)) if row[shares.marks.index(mark)] == sign]
            if len(shares.marks) > 1 and sum(shares.number(row) for row in rows) and not told_kind_held(held(shares, mark, sign)):
                return False
    return True


def told_above(shares, other):
    """Whether shares lie above others, by all rising lots gone through."""
    return all(shares.sum_of(lot) * other.total >= other.sum_of(lot) * shares.total
               for lot in rising_lots(len(shares.marks)))


def told_kept(promise, shares):
    """Whether shares keep a promise."""
    if promise[0] == "fits":
        return told_fits(shares)
    if promise[0] == "kind":
        return told_kind(shares)
    if promise[0] == "kind held":
        return told_kind_held(shares)
    if promise[0] == "helps":
        return told_help(shares, promise[1], promise[2]) >= 0
    return told_above(shares, promise[1])


def wrong_promises():
    """Return what is no promise over two marks."""
    lot, other = ("01", "11"), ("10", "11")
    lots = strange() + ["", "11", ["11"], 0, ("01",), ("00",), ("00", "11"), ("01", "10"), ("11", "01"), ("11", "11"),
                        ("1",), ("111",), ("12",), (11,), (None,), ("11", None), ("01", "11", "10"), Sullen(), Fond()]
    found = strange() + [0, 1, "", "fits", "kind", "kind held", ["fits"], ["kind"], ()]
    found += [(word,) for word in ("", "fit", "Fits", "fits ", "not fits", "kinds", "kind  held", "held", "helps", "above")]
    found += [(word, more) for word in ("fits", "kind", "kind held") for more in (None, (), "", LIKE, lot)]
    found += [(value,) for value in strange() + [0, 1, b"fits", ("fits",)]]
    found += [("helps",), ("helps", lot), ("helps", lot, other, lot), ("helps", (lot, other)), ["helps", lot, other]]
    found += [("helps", value, other) for value in lots] + [("helps", other, value) for value in lots]
    found += [("hinder", lot, other), ("help", lot, other), (lot, "helps", other)]
    found += [("above",), ("above", LIKE, LIKE), ["above", LIKE], ("above", (LIKE,)), ("below", LIKE), (LIKE, "above")]
    found += [("above", value) for value in no_shares() + ["marks a, b\n00: 1", nested(19)]]
    found += [("above", Shares(marks, (1,) * 2 ** len(marks))) for marks in (A, ABC, ("b", "a"), ("a", "c"), ("ab", "b"))]
    return found


class DeskCase(Case):
    """A test case that looks at desks whole."""

    def shows(self, desk, shares, promises, many):
        """Check that a desk shows these shares and promises, and so many changes that can be taken back."""
        self.assertIs(desk.shares.__class__, Shares)
        self.assertEqual(desk.shares, shares)
        self.assertIs(desk.promises.__class__, tuple)
        self.assertEqual(desk.promises, promises)
        self.assertEqual(len(desk), many)
        self.assertIs(bool(desk), many > 0)


class Fresh(DeskCase):
    def test_a_new_desk(self):
        desk = Desk(LIKE)
        self.assertIs(desk.shares, LIKE)
        self.shows(desk, LIKE, (), 0)
        self.fails("NothingToUndo", None, desk.undo)
        self.shows(Desk(shares=ODD), ODD, (), 0)

    def test_no_shares(self):
        for value in no_shares():
            self.fails("NotShares", value, Desk, value)
            self.fails("NotShares", value, Desk, shares=value)

    def test_equal_to_itself_alone(self):
        one, two = Desk(LIKE), Desk(LIKE)
        self.assertIs(one == one, True)
        self.assertIs(one != one, False)
        for other in (two, LIKE, (), None, 0):
            self.assertIs(one == other, False)
            self.assertIs(one != other, True)

    def test_defined_in_the_class(self):
        for name in ("__init__", "__len__", "put", "promise", "lift", "undo", "trial"):
            self.assertIn(name, vars(Desk))
        self.assertEqual({Desk.__module__, tried.__module__}, {"wishesrise.desks"})
        self.assertLessEqual({"shares", "promises"}, set(vars(Desk(LIKE))))


class Put(DeskCase):
    def test_by_hand(self):
        desk = Desk(LIKE)
        self.assertIsNone(desk.put("01", 7))
        self.shows(desk, Shares(AB, (2, 7, 1, 2)), (), 1)
        self.assertIsNone(desk.put(row="00", number=0))
        self.assertIsNone(desk.put(number=MOST, row="11"))
        self.shows(desk, Shares(AB, (0, 7, 1, MOST)), (), 3)
        self.assertEqual(LIKE.numbers, (2, 1, 1, 2))

    def test_the_number_that_it_has_is_a_change(self):
        desk = Desk(LIKE)
        desk.promise(("fits",))
        self.assertIsNone(desk.put("01", 1))
        self.assertIsNone(desk.put("01", 1))
        self.shows(desk, LIKE, (("fits",),), 3)
        desk.undo()
        desk.undo()
        self.shows(desk, LIKE, (("fits",),), 1)

    def test_no_row(self):
        desk = Desk(LIKE)
        for row in strange() + ["", "0", "011", "02", "a", "01\n", 0, 1, ("01",)]:
            for number in (1, -1, None, True, MOST + 1, Sullen()):
                self.fails("InvalidRow", row, desk.put, row, number)
            self.fails("InvalidRow", row, desk.put, number=1, row=row)
        self.shows(desk, LIKE, (), 0)

    def test_no_number(self):
        desk = Desk(Shares(AB, (0, 0, 0, 2)))
        desk.promise(("fits",))
        for number in strange() + [-1, MOST + 1, 10 ** 59, -10 ** 59, "1", "", (1,), b"1"]:
            for row in all_rows(2):
                self.fails("InvalidNumber", number, desk.put, row, number)
            self.fails("InvalidNumber", number, desk.put, number=number, row="11")
        self.shows(desk, Shares(AB, (0, 0, 0, 2)), (("fits",),), 1)

    def test_all_would_be_0(self):
        for row in all_rows(2):
            shares = Shares(AB, tuple(5 * (row == other) for other in all_rows(2)))
            desk = Desk(shares)
            self.fails("NoShares", None, desk.put, row, 0)
            for other in all_rows(2):
                if other != row:
                    self.assertIsNone(desk.put(other, 0))
            self.shows(desk, shares, (), 3)

    def test_no_shares_ahead_of_broken(self):
        desk = Desk(Shares(A, (0, 4)))
        desk.promise(("above", Shares(A, (0, 1))))
        self.fails("NoShares", None, desk.put, "1", 0)
        self.fails("Broken", 0, desk.put, "0", 1)
        self.fails("InvalidNumber", -1, desk.put, "0", -1)
        self.fails("InvalidRow", "2", desk.put, "2", -1)
        self.shows(desk, Shares(A, (0, 4)), (("above", Shares(A, (0, 1))),), 1)

    def test_the_first_promise_that_does_not_hold(self):
        desk = Desk(LIKE)
        promises = (("helps", ("01", "11"), ("11",)), ("above", Shares(AB, (9, 1, 1, 1))), ("kind",), ("fits",), ("kind held",))
        for promise in promises:
            desk.promise(promise)
        # With more of "01" the marks hinder one another; with more of "00" all other rows have less share.
        self.fails("Broken", 2, desk.put, "01", 5)
        self.fails("Broken", 1, desk.put, "00", 40)
        self.shows(desk, LIKE, promises, 5)
        desk.lift(2)
        self.fails("Broken", 2, desk.put, "01", 5)
        desk.lift(1)
        self.fails("Broken", 1, desk.put, "01", 5)
        desk.lift(1)
        desk.lift(1)
        self.assertIsNone(desk.put("01", 5))
        self.shows(desk, Shares(AB, (2, 5, 1, 2)), promises[:1], 10)


class Promise(DeskCase):
    def test_each_kind_held_and_broken(self):
        for promise in ALONE + (("helps", ("01", "11"), ("10", "11")), ("above", LIKE)):
            desk = Desk(LIKE)
            self.assertIsNone(desk.promise(promise))
            self.assertIs(desk.promises[0], promise)
            self.shows(desk, LIKE, (promise,), 1)
            broken = "11" if promise[0] != "above" else "00"
            self.fails("Broken", 0, desk.put, broken, 0 if broken == "11" else 3)
            self.assertIsNone(desk.put("11", 3))
            self.shows(desk, Shares(AB, (2, 1, 1, 3)), (promise,), 2)
        for promise in ALONE + (("helps", ("01", "11"), ("10", "11")), ("above", Shares(AB, (0, 2, 2, 1)))):
            desk = Desk(ODD)
            self.fails("Broken", 0, desk.promise, promise)
            self.fails("Broken", 0, desk.promise, promise=promise)
            self.shows(desk, ODD, (), 0)

    def test_arguments_by_name(self):
        desk = Desk(LIKE)
        self.assertIsNone(desk.promise(promise=("kind",)))
        self.assertIsNone(desk.lift(index=0))
        self.shows(desk, LIKE, (), 2)

    def test_kind_but_not_if_a_mark_is_held(self):
        # Kind, but not where "b" is there; they fit neither.
        desk = Desk(Shares(ABC, (20, 1, 1, 2, 2, 2, 2, 2)))
        self.assertIsNone(desk.promise(("kind",)))
        self.fails("Broken", 1, desk.promise, ("kind held",))
        self.fails("Broken", 1, desk.promise, ("fits",))
        self.shows(desk, Shares(ABC, (20, 1, 1, 2, 2, 2, 2, 2)), (("kind",),), 1)

    def test_any_number_and_the_same_once_more(self):
        desk, promises = Desk(LIKE), ()
        for promise in (("fits",), ("fits",), ("above", LIKE), ("kind",), ("above", LIKE), ("fits",)) * 3:
            desk.promise(promise)
            promises += (promise,)
            self.shows(desk, LIKE, promises, len(promises))
        self.fails("Broken", 18, desk.promise, ("above", Shares(AB, (0, 0, 0, 1))))

    def test_empty_and_whole_lots(self):
        whole = ("00", "01", "10", "11")
        for one in ((), whole, ("11",)):
            for two in ((), whole):
                for shares in (LIKE, ODD):
                    desk = Desk(shares)
                    self.assertIsNone(desk.promise(("helps", one, two)))
                    self.assertIsNone(desk.promise(("helps", two, one)))

    def test_what_is_no_promise(self):
        for shares in (LIKE, ODD):
            desk = Desk(shares)
            desk.put("00", shares.number("00"))
            for promise in wrong_promises():
                self.fails("InvalidPromise", promise, desk.promise, promise)
                self.fails("InvalidPromise", promise, desk.promise, promise=promise)
            self.shows(desk, shares, (), 1)

    def test_drawn_promises(self):
        chance = random.Random(1)
        kept = broken = 0
        for size in (1, 2, 3):
            lots = rising_lots(size)
            others = mixed(2, size, 6)
            for shares in mixed(3, size, 6) + fitting(4, 6, size):
                promises = ALONE + (("helps", chance.choice(lots), chance.choice(lots)), ("above", chance.choice(others)))
                desk, made = Desk(shares), ()
                for promise in promises:
                    if told_kept(promise, shares):
                        kept += 1
                        desk.promise(promise)
                        made += (promise,)
                    else:
                        broken += 1
                        self.fails("Broken", len(made), desk.promise, promise)
                    self.shows(desk, shares, made, len(made))
        self.assertTrue(kept > 30 and broken > 30)


class Lift(DeskCase):
    def test_by_hand(self):
        desk = Desk(LIKE)
        for promise in ALONE:
            desk.promise(promise)
        self.assertIsNone(desk.lift(1))
        self.shows(desk, LIKE, (("fits",), ("kind held",)), 4)
        self.assertIsNone(desk.lift(1))
        self.assertIsNone(desk.lift(0))
        self.shows(desk, LIKE, (), 6)

    def test_no_index(self):
        desk = Desk(LIKE)
        self.fails("InvalidIndex", 0, desk.lift, 0)
        for promise in ALONE:
            desk.promise(promise)
        for index in strange() + [3, 4, -1, -3, 10 ** 59, "0", "", (0,), [0], LIKE]:
            self.fails("InvalidIndex", index, desk.lift, index)
            self.fails("InvalidIndex", index, desk.lift, index=index)
        self.shows(desk, LIKE, ALONE, 3)

    def test_what_was_promised_may_break_then(self):
        desk = Desk(LIKE)
        desk.promise(("fits",))
        self.fails("Broken", 0, desk.put, "00", 0)
        desk.lift(0)
        desk.put("00", 0)
        self.fails("Broken", 0, desk.promise, ("fits",))
        self.shows(desk, Shares(AB, (0, 1, 1, 2)), (), 3)


class Undo(DeskCase):
    def test_every_kind_of_change(self):
        desk = Desk(LIKE)
        desk.put("00", 4)
        desk.promise(("fits",))
        desk.put("11", 2)
        desk.promise(("kind",))
        desk.lift(0)
        wide = Shares(AB, (4, 1, 1, 2))
        self.shows(desk, wide, (("kind",),), 5)
        told = [(wide, (("fits",), ("kind",))), (wide, (("fits",),)), (wide, (("fits",),)), (wide, ()), (LIKE, ())]
        for many, (shares, promises) in zip(range(4, -1, -1), told):
            self.assertIsNone(desk.undo())
            self.shows(desk, shares, promises, many)
        self.fails("NothingToUndo", None, desk.undo)
        self.shows(desk, LIKE, (), 0)

    def test_behind_errors_nothing_is_changed(self):
        desk = Desk(LIKE)
        desk.promise(("fits",))
        wrong = [("InvalidRow", "2", desk.put, "2", 1), ("InvalidNumber", -1, desk.put, "00", -1), ("Broken", 0, desk.put, "00", 0),
                 ("InvalidPromise", "kind", desk.promise, "kind"), ("InvalidIndex", 1, desk.lift, 1),
                 ("Broken", 1, desk.promise, ("above", Shares(AB, (0, 0, 0, 1))))]
        for told in wrong:
            self.fails(*told)
            self.shows(desk, LIKE, (("fits",),), 1)
        desk.undo()
        self.fails("NothingToUndo", None, desk.undo)

    def test_two_desks_side_by_side(self):
        one, two = Desk(LIKE), Desk(LIKE)
        one.put("00", 9)
        two.promise(("fits",))
        self.shows(one, Shares(AB, (9, 1, 1, 2)), (), 1)
        self.shows(two, LIKE, (("fits",),), 1)
        two.undo()
        self.fails("NothingToUndo", None, two.undo)
        self.shows(one, Shares(AB, (9, 1, 1, 2)), (), 1)

    def against_drawn(self, chance, desk, size):
        """Change a desk at random; check each change and each error by promises gone through."""
        history = [(desk.shares, ())]
        for _ in range(60):
            shares, promises = history[-1]
            choice = chance.random()
            if choice < 0.6:
                row, number = chance.choice(all_rows(size)), chance.choice([0, 1, 2, 5, MOST])
                numbers = tuple(number if other == row else shares.number(other) for other in all_rows(size))
                if not any(numbers):
                    self.fails("NoShares", None, desk.put, row, number)
                    continue
                changed = Shares(shares.marks, numbers)
                broken = [index for index, promise in enumerate(promises) if not told_kept(promise, changed)]
                if broken:
                    self.fails("Broken", broken[0], desk.put, row, number)
                else:
                    desk.put(row, number)
                    history.append((changed, promises))
            elif choice < 0.8:
                lots = rising_lots(size)
                promise = chance.choice(ALONE + (("helps", chance.choice(lots), chance.choice(lots)), ("above", shares)))
                if told_kept(promise, shares):
                    desk.promise(promise)
                    history.append((shares, promises + (promise,)))
                else:
                    self.fails("Broken", len(promises), desk.promise, promise)
            elif choice < 0.9 and promises:
                index = chance.randrange(len(promises))
                desk.lift(index)
                history.append((shares, promises[:index] + promises[index + 1:]))
            elif len(history) > 1:
                desk.undo()
                history.pop()
            self.shows(desk, history[-1][0], history[-1][1], len(history) - 1)
            self.assertTrue(all(told_kept(promise, desk.shares) for promise in desk.promises))

    def test_drawn_changes(self):
        for size, many in ((1, 8), (2, 12), (3, 4)):
            for seed, shares in enumerate(mixed(5, size, 2)[:many]):
                self.against_drawn(random.Random(seed), Desk(shares), size)

    def test_four_marks(self):
        desk = Desk(Shares(MARKS, tuple(2 ** row.count("1") for row in all_rows(4))))
        for promise in ALONE + (("helps", ("1111",), ("0111", "1111")), ("above", desk.shares)):
            desk.promise(promise)
        self.fails("Broken", 0, desk.put, "0011", 5)
        self.fails("Broken", 0, desk.put, "0011", 3)
        desk.put("1111", 17)
        top = Shares(MARKS, tuple(int(is_over(row, "1111")) for row in all_rows(4)))
        self.fails("Broken", 5, desk.promise, ("above", top))
        self.assertIs(is_above(top, desk.shares), True)


class Tried(DeskCase):
    def test_what_could_be(self):
        desk = Desk(LIKE)
        desk.promise(("fits",))

        def could(number):
            def act(desk):
                desk.put("00", number)
                return desk.shares.share_of(("11",))
            return act

        self.assertEqual(tried(desk, could(4)), (1, 4))
        self.assertEqual(tried(desk, could(16)), (1, 10))
        with self.assertRaises(Broken) as caught:
            tried(desk, could(0))
        self.assertEqual(caught.exception.index, 0)
        self.shows(desk, LIKE, (("fits",),), 1)


if __name__ == "__main__":
    unittest.main()
