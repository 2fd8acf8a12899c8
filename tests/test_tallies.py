"""Tallies: points 3, 4 and 5, as wishesrise.tallies speaks of them; their trials are tested in test_trials."""

import random
import time
import unittest

from tests.helpers import MARKS, MOST, Case, Fond, Sullen, all_rows, hard_marks, nested, strange
from wishesrise import tallies
from wishesrise.errors import Busy
from wishesrise.shares import Shares
from wishesrise.tallies import Tally, attempt

AB = ("a", "b")
MILLION = 10 ** 6


class Stop(Exception):
    """What a watch raises in these tests."""


class Halt(BaseException):
    """Likewise, but no Exception."""


def wrong_deeds():
    """Return what is no deed over two marks."""
    rows = strange() + ["", "0", "011", "02", "a", "01\n", "\u0660\u0661", 0, 1, ("0", "1"), b"01"]
    numbers = strange() + [0, -1, MILLION + 1, MOST, 10 ** 59, "1", "", (1,), Sullen(), Fond()]
    whole = strange() + [(), ("01",), ("01", 1, 1), ("01", 1, None), (1, "01"), ["01", 1], "01", {"01": 1}, 1, (("01", 1),)]
    return whole + [(row, 1) for row in rows] + [("01", number) for number in numbers] + [(nested(18), nested(18))]


def state(tally):
    """What a tally shows."""
    rows = all_rows(len(tally.marks))
    return tally.marks, tally.log, tally.busy, len(tally), bool(tally), [tally.number(row) for row in rows]


class TallyCase(Case):
    """A test case that looks at tallies whole."""

    def shows(self, tally, log):
        """Check that a tally shows these deeds, and no others."""
        counts = {row: 0 for row in all_rows(len(tally.marks))}
        for row, number in log:
            counts[row] += number
        self.assertIs(tally.log.__class__, tuple)
        self.assertEqual(tally.log, tuple(log))
        self.assertEqual(len(tally), len(log))
        self.assertIs(bool(tally), len(log) > 0)
        for row, number in counts.items():
            self.assertEqual(tally.number(row), number)
        if log:
            self.assertEqual(tally.as_shares(), Shares(tally.marks, tuple(counts.values())))
        else:
            self.fails("NoShares", None, tally.as_shares)


class Fresh(TallyCase):
    def test_a_new_tally(self):
        for size in (1, 2, 3, 4):
            tally = Tally(MARKS[:size])
            self.assertEqual(tally.marks, MARKS[:size])
            self.assertIs(tally.busy, False)
            self.shows(tally, [])
            self.fails("NothingToUndo", None, tally.undo)
        self.assertEqual(Tally(marks=AB).marks, AB)

    def test_no_marks(self):
        for marks, index in hard_marks():
            self.fails("InvalidMarks", index, Tally, marks)
            self.fails("InvalidMarks", index, Tally, marks=marks)

    def test_equal_to_itself_alone(self):
        one, two = Tally(AB), Tally(AB)
        self.assertIs(one == one, True)
        self.assertIs(one != one, False)
        for other in (two, AB, (), None, 0, Shares(AB, (1, 1, 1, 1))):
            self.assertIs(one == other, False)
            self.assertIs(one != other, True)

    def test_defined_in_the_class(self):
        for name in ("__init__", "__len__", "as_shares", "number", "do", "do_all", "undo", "trial"):
            self.assertIn(name, vars(Tally))
        self.assertEqual({Tally.__module__, attempt.__module__}, {"wishesrise.tallies"})
        self.assertLessEqual({"marks", "log", "busy"}, set(vars(Tally(AB))))
        self.assertTrue(callable(tallies.attempt))


class Do(TallyCase):
    def test_by_hand(self):
        tally, deed = Tally(AB), ("01", 3)
        self.assertIsNone(tally.do(deed))
        self.assertIs(tally.log[0], deed)
        self.shows(tally, [("01", 3)])
        self.assertIsNone(tally.do(deed=("11", 2)))
        self.assertIsNone(tally.do(("01", 1)))
        self.shows(tally, [("01", 3), ("11", 2), ("01", 1)])
        self.assertEqual(tally.as_shares(), Shares(AB, (0, 4, 0, 2)))
        self.assertEqual([tally.number("01"), tally.number(row="11")], [4, 2])

    def test_edges_of_the_number(self):
        tally = Tally(("a",))
        for number in (1, 2, MILLION - 1, MILLION):
            tally.do(("1", number))
        self.assertEqual(tally.number("1"), 2 * MILLION + 2)

    def test_what_is_no_deed(self):
        tally = Tally(AB)
        tally.do(("10", 5))
        for deed in wrong_deeds():
            self.fails("InvalidDeeds", 0, tally.do, deed)
            self.fails("InvalidDeeds", 0, tally.do, deed=deed)
            self.shows(tally, [("10", 5)])

    def test_number_of_no_row(self):
        tally = Tally(AB)
        for row in strange() + ["", "0", "011", "02", "a", "01\n", 0, 1, ("01",)]:
            self.fails("InvalidRow", row, tally.number, row)
            self.fails("InvalidRow", row, tally.number, row=row)

    def test_shares_that_were_given_stay_the_same(self):
        tally = Tally(("a",))
        tally.do(("0", 1))
        shares, log = tally.as_shares(), tally.log
        tally.do(("0", 1))
        self.assertEqual((shares.numbers, log), ((1, 0), (("0", 1),)))


class TooMany(TallyCase):
    @classmethod
    def setUpClass(cls):
        # A number can be as great as this by a million deeds alone: the tally is made once.
        cls.full = Tally(("a",))
        cls.full.do_all((("1", MILLION),) * MILLION)

    def test_at_the_limit(self):
        tally = self.full
        self.assertEqual((tally.number("1"), len(tally)), (MOST, MILLION))
        self.assertEqual(tally.as_shares(), Shares(("a",), (0, MOST)))
        for deed in (("1", 1), ("1", MILLION)):
            self.fails("TooMany", MOST, tally.do, deed)
            self.fails("TooMany", MOST, tally.do_all, (deed,))
            self.fails("TooMany", MOST, tally.do_all, deeds=(("0", 4), deed, None))
            self.assertEqual((tally.number("0"), tally.number("1"), len(tally)), (0, MOST, MILLION))
        self.fails("InvalidDeeds", 0, tally.do, ("1", MILLION + 1))
        self.fails("InvalidDeeds", 0, tally.do_all, (None, ("1", 1)))

    def test_one_less(self):
        with self.full.trial() as tally:
            tally.undo()
            self.assertEqual(tally.number("1"), MOST - MILLION)
            tally.do(("1", MILLION - 1))
            self.fails("TooMany", MOST, tally.do, ("1", 2))
            tally.do(("1", 1))
            self.fails("TooMany", MOST, tally.do, ("1", 1))
            tally.do(("0", 1))
        self.assertEqual((self.full.number("0"), self.full.number("1"), len(self.full)), (0, MOST, MILLION))

    def test_within_one_do_all(self):
        tally = Tally(("a",))
        tally.do(("1", 1))
        began = time.monotonic()
        self.fails("TooMany", MOST, tally.do_all, (("1", MILLION),) * MILLION)
        self.assertLess(time.monotonic() - began, 60)
        self.shows(tally, [("1", 1)])
        self.assertIs(tally.busy, False)

    def test_the_watch_ahead_of_too_many(self):
        seen = []
        self.fails("TooMany", MOST, self.full.do_all, (("0", 1), ("1", 1), ("0", 1)),
                   watch=lambda tally, index: seen.append((index, tally.number("0"))))
        self.assertEqual(seen, [(0, 1)])
        self.assertEqual((self.full.number("0"), len(self.full)), (0, MILLION))


class DoAll(TallyCase):
    def test_by_hand(self):
        tally = Tally(AB)
        deeds = (("01", 3), ("11", 2), ("01", 3))
        self.assertIsNone(tally.do_all(deeds))
        self.shows(tally, deeds)
        self.assertTrue(all(done is deed for done, deed in zip(tally.log, deeds)))
        self.assertIsNone(tally.do_all(deeds=(("00", 1),), watch=None))
        self.assertIsNone(tally.do_all(()))
        self.shows(tally, deeds + (("00", 1),))

    def test_watch_by_its_name_only(self):
        tally = Tally(AB)
        with self.assertRaises(TypeError):
            tally.do_all((("01", 3),), lambda tally, index: None)
        self.shows(tally, [])

    def test_the_watch(self):
        tally, seen = Tally(AB), []
        tally.do(("00", 7))
        deeds = (("01", 3), ("11", 2), ("01", 1))

        def watch(*told, **named):
            self.assertEqual((len(told), named), (2, {}))
            self.assertIs(told[0], tally)
            self.assertIs(told[1].__class__, int)
            seen.append((told[1],) + state(tally) + (tally.as_shares(),))
            return True

        self.assertIsNone(tally.do_all(watch=watch, deeds=deeds))
        numbers = [[7, 3, 0, 0], [7, 3, 0, 2], [7, 4, 0, 2]]
        self.assertEqual(seen, [(k, AB, (("00", 7),) + deeds[:k + 1], True, k + 2, True, numbers[k],
                                 Shares(AB, tuple(numbers[k]))) for k in range(3)])
        self.shows(tally, (("00", 7),) + deeds)
        self.assertIs(tally.busy, False)
        tally.do_all((), watch=lambda tally, index: self.fail("no deed was done"))

    def test_no_tuple(self):
        tally = Tally(AB)
        tally.do(("10", 1))
        for deeds in strange() + ["", "01", 0, 1, [("01", 1)], {"01": 1}, [("01", 0)]]:
            index = 0 if isinstance(deeds, tuple) else None
            self.fails("InvalidDeeds", index, tally.do_all, deeds)
            self.fails("InvalidDeeds", index, tally.do_all, deeds=deeds, watch=lambda tally, index: self.fail("called"))
            self.shows(tally, [("10", 1)])
        self.assertIs(tally.busy, False)

    def test_the_index_of_what_is_no_deed(self):
        tally = Tally(AB)
        tally.do(("10", 1))
        for deed in wrong_deeds():
            for many in (0, 1, 3):
                seen = []
                deeds = (("01", 2),) * many + (deed, None, ("01", 1))
                self.fails("InvalidDeeds", many, tally.do_all, deeds)
                self.fails("InvalidDeeds", many, tally.do_all, deeds, watch=lambda tally, index: seen.append(index))
                # Those ahead of it were done, and the watch was called, before its turn came.
                self.assertEqual(seen, list(range(many)))
                self.shows(tally, [("10", 1)])
                self.assertIs(tally.busy, False)

    def test_errors_of_the_watch(self):
        for wrong in (Stop, Halt, KeyboardInterrupt, StopIteration, ValueError, Busy):
            for at in range(3):
                tally, seen = Tally(AB), []
                tally.do(("10", 1))
                error = wrong()

                def watch(tally, index):
                    seen.append(index)
                    if index == at:
                        raise error

                with self.assertRaises(wrong) as caught:
                    tally.do_all((("01", 2), ("11", 3), ("01", 4)), watch=watch)
                self.assertIs(caught.exception, error)
                self.assertEqual(seen, list(range(at + 1)))
                self.shows(tally, [("10", 1)])
                self.assertIs(tally.busy, False)
                tally.undo()
                self.fails("NothingToUndo", None, tally.undo)

    def test_an_error_of_the_watch_ahead_of_a_wrong_deed(self):
        tally = Tally(AB)

        def watch(tally, index):
            raise Stop()

        with self.assertRaises(Stop):
            tally.do_all((("01", 2), None), watch=watch)
        self.fails("InvalidDeeds", 0, tally.do_all, (None, ("01", 2)), watch=watch)
        self.shows(tally, [])

    def test_deeds_are_not_altered(self):
        deeds = (("01", 3), ("11", 2))
        for _ in range(2):
            tally = Tally(AB)
            tally.do_all(deeds)
            tally.undo()
            self.assertEqual(deeds, (("01", 3), ("11", 2)))


class BusyAhead(TallyCase):
    def test_while_do_all_is_at_work(self):
        tally, counts = Tally(AB), []
        tally.do(("00", 1))

        def watch(tally, index):
            before = state(tally)
            for deed in (("01", 1), None, [], Sullen(), ("01", 0)):
                self.fails("Busy", None, tally.do, deed)
                self.fails("Busy", None, tally.do, deed=deed)
            for deeds in ((), (("01", 1),), None, [], (None,)):
                self.fails("Busy", None, tally.do_all, deeds)
                self.fails("Busy", None, tally.do_all, deeds=deeds, watch=None)
            self.fails("Busy", None, tally.undo)
            self.fails("Busy", None, tally.trial)
            self.fails("Busy", None, attempt, tally, lambda tally: self.fail("called"))
            self.fails("Busy", None, attempt, act=None, tally=tally)
            self.assertEqual(state(tally), before)
            self.assertIs(tally.busy, True)
            counts.append(index)

        tally.do_all((("01", 2), ("10", 3)), watch=watch)
        self.assertEqual(counts, [0, 1])
        self.shows(tally, [("00", 1), ("01", 2), ("10", 3)])

    def test_a_busy_error_within_the_watch_takes_all_back(self):
        tally = Tally(AB)
        self.fails("Busy", None, tally.do_all, (("01", 2),), watch=lambda tally, index: tally.do(("01", 1)))
        self.fails("Busy", None, tally.do_all, (("01", 2),), watch=lambda tally, index: tally.undo())
        self.fails("Busy", None, tally.do_all, (("01", 2),), watch=lambda tally, index: tally.do_all(()))
        self.shows(tally, [])

    def test_free_again_however_it_ended(self):
        def stop(tally, index):
            raise Stop()

        tally = Tally(AB)
        endings = [lambda: tally.do_all((("01", 2),)), lambda: tally.do_all((None,)), lambda: tally.do_all(None),
                   lambda: tally.do_all((("01", 2),), watch=stop),
                   lambda: tally.do_all((("01", 2),), watch=lambda tally, index: tally.trial())]
        for ending in endings:
            try:
                ending()
            except Exception:
                pass
            self.assertIs(tally.busy, False)
            many = len(tally)
            tally.do(("00", 1))
            tally.do_all((("00", 1),))
            with tally.trial():
                tally.undo()
            self.assertEqual(attempt(tally, len), many + 2)
            tally.undo()
            self.assertEqual(len(tally), many + 1)

    def test_another_tally_is_not_busy(self):
        one, two = Tally(AB), Tally(AB)
        one.do_all((("01", 2), ("10", 3)), watch=lambda tally, index: two.do(("11", index + 1)))
        self.shows(one, [("01", 2), ("10", 3)])
        self.shows(two, [("11", 1), ("11", 2)])


class Undo(TallyCase):
    def test_one_by_one(self):
        tally = Tally(AB)
        tally.do(("01", 3))
        tally.do_all((("11", 2), ("01", 1), ("00", MILLION)))
        tally.do(("01", 3))
        log = list(tally.log)
        while log:
            self.shows(tally, log)
            self.assertIsNone(tally.undo())
            log.pop()
        self.shows(tally, [])
        self.fails("NothingToUndo", None, tally.undo)

    def test_drawn_changes(self):
        chance = random.Random(1)
        for size in (1, 2, 4):
            tally, log = Tally(MARKS[:size]), []
            for _ in range(300):
                deeds = [(chance.choice(all_rows(size)), chance.randint(1, MILLION)) for _ in range(chance.randint(0, 3))]
                choice = chance.random()
                if choice < 0.3 and deeds:
                    tally.do(deeds[0])
                    log.append(deeds[0])
                elif choice < 0.5:
                    tally.do_all(tuple(deeds), watch=chance.choice([None, lambda tally, index: None]))
                    log += deeds
                elif choice < 0.6:
                    self.fails("InvalidDeeds", len(deeds), tally.do_all, tuple(deeds) + (chance.choice([None, ("2", 1)]),))
                elif log:
                    tally.undo()
                    log.pop()
                else:
                    self.fails("NothingToUndo", None, tally.undo)
                self.shows(tally, log)

    def test_two_tallies_side_by_side(self):
        one, two = Tally(AB), Tally(AB)
        one.do(("01", 1))
        two.do(("10", 2))
        one.do_all((("11", 3), ("00", 4)))
        self.shows(two, [("10", 2)])
        two.undo()
        self.shows(two, [])
        self.shows(one, [("01", 1), ("11", 3), ("00", 4)])


if __name__ == "__main__":
    unittest.main()
