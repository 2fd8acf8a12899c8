"""Trials of tallies and of desks: behind their rows all is again as it was at their beginning."""

import unittest

from tests.helpers import Case
from wishesrise.desks import Desk, tried
from wishesrise.shares import Shares
from wishesrise.tallies import Tally, attempt

AB = ("a", "b")
ENDINGS = (ValueError, LookupError, ArithmeticError, KeyboardInterrupt, StopIteration, GeneratorExit)


class TallyRows:
    """A tally with some deeds, and what the tests of trials do with it."""

    def __init__(self):
        self.thing = Tally(AB)
        self.thing.do(("01", 3))
        self.thing.do_all((("11", 2), ("01", 1)))
        self.within = attempt

    def state(self):
        """What the tally shows, and what undo takes back, one by one."""
        tally = self.thing
        shown = tally.marks, tally.log, len(tally), bool(tally), tally.as_shares() if tally else None
        return shown + (tuple(tally.number(row) for row in ("00", "01", "10", "11")), self.behind_undo())

    def behind_undo(self):
        """The logs behind one undo after the other: those of a tally with the same deeds."""
        other = Tally(AB)
        other.do_all(self.thing.log)
        logs = []
        while other:
            other.undo()
            logs.append(other.log)
        return tuple(logs)

    def change(self):
        """Change it in every way, so that it is another one."""
        tally = self.thing
        tally.do(("10", 5))
        tally.undo()
        tally.undo()
        tally.do_all((("00", 7), ("00", 8)))
        tally.do(("10", 1))

    def restart(self):
        """Begin it anew, when all was taken back."""
        self.thing.do(("00", 4))

    def undo_all(self):
        """Take back all that can be taken back."""
        while self.thing:
            self.thing.undo()


class DeskRows:
    """A desk with some changes, and what the tests of trials do with it."""

    def __init__(self):
        self.thing = Desk(Shares(AB, (2, 1, 1, 2)))
        self.thing.promise(("fits",))
        self.thing.put("11", 5)
        self.thing.promise(("helps", ("01", "11"), ("11",)))
        self.thing.lift(0)
        self.within = tried

    def state(self):
        """What the desk shows, and the number of what can be taken back."""
        return self.thing.shares, self.thing.promises, len(self.thing), bool(self.thing)

    def change(self):
        """Change it in every way, so that it is another one."""
        desk = self.thing
        desk.promise(("kind",))
        desk.undo()
        desk.undo()
        desk.undo()
        desk.lift(0)
        desk.put("00", 9)
        desk.promise(("above", desk.shares))
        desk.put("00", 8)

    def restart(self):
        """Begin it anew, when all was taken back."""
        self.thing.put("00", 4)

    def undo_all(self):
        """Take back all that can be taken back."""
        while self.thing:
            self.thing.undo()


def undo_states(rows):
    """The states behind one undo after the other, to the end; what was taken back is brought back by a trial."""
    found = []
    with rows.thing.trial():
        while rows.thing:
            rows.thing.undo()
            found.append(rows.state())
    return found


class Trials(Case):
    def each(self):
        """A new tally and a new desk."""
        return [TallyRows(), DeskRows()]

    def test_as_gives_the_thing(self):
        for rows in self.each():
            with rows.thing.trial() as given:
                self.assertIs(given, rows.thing)

    def test_all_is_again_as_it_was(self):
        for rows in self.each():
            before, behind = rows.state(), undo_states(rows)
            self.assertEqual(rows.state(), before)
            with rows.thing.trial():
                rows.change()
                self.assertNotEqual(rows.state(), before)
            self.assertEqual(rows.state(), before)
            self.assertEqual(undo_states(rows), behind)
            rows.change()
            self.assertNotEqual(rows.state(), before)

    def test_what_was_undone_can_be_undone_again(self):
        for rows in self.each():
            before, behind = rows.state(), undo_states(rows)
            with rows.thing.trial():
                rows.undo_all()
                self.fails("NothingToUndo", None, rows.thing.undo)
            self.assertEqual(rows.state(), before)
            self.assertEqual(undo_states(rows), behind)
            rows.undo_all()
            self.fails("NothingToUndo", None, rows.thing.undo)

    def test_an_error_goes_on(self):
        for wrong in ENDINGS:
            for rows in self.each():
                before, error = rows.state(), wrong()
                with self.assertRaises(wrong) as caught:
                    with rows.thing.trial():
                        rows.change()
                        raise error
                self.assertIs(caught.exception, error)
                self.assertEqual(rows.state(), before)

    def test_errors_of_the_thing_itself(self):
        rows = TallyRows()
        before = rows.state()
        with self.assertRaises(ValueError):
            with rows.thing.trial() as tally:
                tally.do(("00", 1))
                tally.do_all((("00", 1), None))
        self.assertEqual(rows.state(), before)
        rows = DeskRows()
        before = rows.state()
        with self.assertRaises(LookupError):
            with rows.thing.trial() as desk:
                desk.promise(("fits",))
                desk.put("11", 0)
        self.assertEqual(rows.state(), before)

    def test_other_ends(self):
        for rows in self.each():
            before = rows.state()

            def leave():
                with rows.thing.trial():
                    rows.change()
                    return len(rows.thing)

            self.assertGreater(leave(), 0)
            self.assertEqual(rows.state(), before)
            for _ in range(3):
                with rows.thing.trial():
                    rows.change()
                    break
            self.assertEqual(rows.state(), before)
            for _ in range(3):
                with rows.thing.trial():
                    rows.change()
                    continue
            self.assertEqual(rows.state(), before)

    def test_the_beginning_is_that_of_the_rows(self):
        for rows in self.each():
            first = rows.state()
            trial = rows.thing.trial()
            rows.change()
            before = rows.state()
            self.assertNotEqual(before, first)
            with trial:
                rows.undo_all()
            self.assertEqual(rows.state(), before)

    def test_trials_within_trials(self):
        for rows in self.each():
            states = [rows.state()]
            with rows.thing.trial():
                rows.change()
                states.append(rows.state())
                with rows.thing.trial():
                    rows.undo_all()
                    states.append(rows.state())
                    with rows.thing.trial():
                        rows.restart()
                        self.assertNotEqual(rows.state(), states[2])
                    self.assertEqual(rows.state(), states[2])
                self.assertEqual(rows.state(), states[1])
                rows.undo_all()
            self.assertEqual(rows.state(), states[0])

    def test_one_trial_entered_again(self):
        for rows in self.each():
            trial = rows.thing.trial()
            first = rows.state()
            with trial as given:
                rows.change()
            self.assertIs(given, rows.thing)
            self.assertEqual(rows.state(), first)
            rows.change()
            second = rows.state()
            with self.assertRaises(ValueError):
                with trial as again:
                    rows.undo_all()
                    raise ValueError()
            self.assertIs(again, rows.thing)
            self.assertEqual(rows.state(), second)
            self.assertNotEqual(first, second)

    def test_one_trial_entered_within_its_own_rows(self):
        for rows in self.each():
            trial = rows.thing.trial()
            first = rows.state()
            with trial:
                rows.change()
                second = rows.state()
                for _ in range(2):
                    with trial as given:
                        self.assertIs(given, rows.thing)
                        rows.undo_all()
                        third = rows.state()
                        with self.assertRaises(KeyError):
                            with trial:
                                with trial:
                                    self.assertEqual(rows.state(), third)
                                raise KeyError()
                        self.assertEqual(rows.state(), third)
                    self.assertEqual(rows.state(), second)
                rows.undo_all()
            self.assertEqual(rows.state(), first)
            self.assertTrue(first != second and second != third)

    def test_two_trials_that_end_in_another_order(self):
        for rows in self.each():
            first = rows.state()
            one, two = rows.thing.trial(), rows.thing.trial()
            one.__enter__()
            rows.change()
            second = rows.state()
            two.__enter__()
            rows.undo_all()
            one.__exit__(None, None, None)
            self.assertEqual(rows.state(), first)
            two.__exit__(None, None, None)
            self.assertEqual(rows.state(), second)

    def test_two_things_side_by_side(self):
        for one, two in ((TallyRows(), TallyRows()), (DeskRows(), DeskRows())):
            before = one.state()
            with one.thing.trial():
                one.change()
                two.change()
                changed = two.state()
                with two.thing.trial():
                    one.undo_all()
                    two.undo_all()
                self.assertEqual(two.state(), changed)
                self.assertNotEqual(one.state(), before)
            self.assertEqual(one.state(), before)
            self.assertEqual(two.state(), changed)

    def test_a_trial_is_true(self):
        for thing in (Tally(AB), Desk(Shares(AB, (1, 1, 1, 1)))):
            trial = thing.trial()
            self.assertIs(bool(trial), True)
            self.assertIs(trial == trial, True)
            self.assertIs(trial == thing.trial(), False)

    def test_nothing_to_undo_at_the_beginning(self):
        for thing in (Tally(AB), Desk(Shares(AB, (1, 1, 1, 1)))):
            with thing.trial():
                if isinstance(thing, Tally):
                    thing.do(("01", 1))
                else:
                    thing.put("01", 1)
                self.assertIs(bool(thing), True)
            self.assertIs(bool(thing), False)
            self.fails("NothingToUndo", None, thing.undo)


class Acts(Case):
    def test_what_act_returns(self):
        for rows in (TallyRows(), DeskRows()):
            before, worth = rows.state(), object()
            passed = []

            def act(*told, **named):
                passed.append((told, named))
                rows.change()
                return worth

            self.assertIs(rows.within(rows.thing, act), worth)
            self.assertEqual(passed, [((rows.thing,), {})])
            self.assertEqual(rows.state(), before)
            self.assertIsNone(rows.within(rows.thing, lambda thing: None))
            self.assertIs(rows.within(rows.thing, lambda thing: thing), rows.thing)

    def test_arguments_by_name(self):
        tally, desk = TallyRows().thing, DeskRows().thing
        self.assertEqual(attempt(tally=tally, act=len), 3)
        self.assertEqual(attempt(act=len, tally=tally), 3)
        self.assertEqual(tried(desk=desk, act=len), 4)
        self.assertEqual(tried(act=len, desk=desk), 4)

    def test_errors_go_on_behind_the_trial(self):
        for wrong in ENDINGS:
            for rows in (TallyRows(), DeskRows()):
                before, error = rows.state(), wrong()

                def act(thing):
                    rows.undo_all()
                    raise error

                with self.assertRaises(wrong) as caught:
                    rows.within(rows.thing, act)
                self.assertIs(caught.exception, error)
                self.assertEqual(rows.state(), before)

    def test_acts_within_acts(self):
        for rows in (TallyRows(), DeskRows()):
            before = rows.state()

            def inner(thing):
                rows.undo_all()
                return len(thing)

            def outer(thing):
                rows.change()
                many = len(thing)
                self.assertEqual(rows.within(thing, inner), 0)
                self.assertEqual(len(thing), many)
                return many

            self.assertGreater(rows.within(rows.thing, outer), 0)
            self.assertEqual(rows.state(), before)


class BusyTallies(Case):
    def test_a_trial_entered_while_the_tally_is_busy(self):
        tally = Tally(AB)
        trial = tally.trial()
        tally.do(("01", 3))
        seen = []

        def watch(tally, index):
            for _ in range(2):
                with trial as given:
                    self.assertIs(given, tally)
                    self.assertIs(tally.busy, True)
                    self.fails("Busy", None, tally.do, ("01", 1))
                    self.fails("Busy", None, tally.trial)
                    with trial:
                        seen.append((index, tally.log))
                self.assertIs(tally.busy, True)
                self.assertEqual(len(tally), index + 2)

        tally.do_all((("11", 2), ("00", 1)), watch=watch)
        logs = [(("01", 3), ("11", 2)), (("01", 3), ("11", 2), ("00", 1))]
        self.assertEqual(seen, [(0, logs[0])] * 2 + [(1, logs[1])] * 2)
        self.assertEqual((tally.log, tally.busy), (logs[1], False))

    def test_within_its_own_rows_and_while_busy(self):
        tally = Tally(AB)
        trial = tally.trial()

        def watch(tally, index):
            with self.assertRaises(KeyError):
                with trial:
                    raise KeyError()
            with trial:
                self.assertEqual(len(tally), index + 2)
            if index == 1:
                raise ArithmeticError()

        with trial:
            tally.do(("01", 3))
            tally.do_all((("11", 2),), watch=watch)
            self.assertEqual(tally.log, (("01", 3), ("11", 2)))
            tally.undo()
            with self.assertRaises(ArithmeticError):
                tally.do_all((("11", 2), ("11", 3), ("11", 4)), watch=watch)
            self.assertEqual(tally.log, (("01", 3),))
        self.assertEqual((tally.log, tally.busy), ((), False))

    def test_an_error_out_of_a_trial_in_the_watch(self):
        tally = Tally(AB)
        trial = tally.trial()
        tally.do(("01", 3))

        def watch(tally, index):
            with trial:
                tally.do(("01", 1))

        self.fails("Busy", None, tally.do_all, (("11", 2), ("00", 1)), watch=watch)
        self.assertEqual((tally.log, tally.busy, tally.number("11")), ((("01", 3),), False, 0))

    def test_rows_that_end_behind_do_all(self):
        tally = Tally(AB)
        trial = tally.trial()
        tally.do_all((("11", 2), ("00", 1)), watch=lambda tally, index: trial.__enter__())
        self.assertEqual((len(tally), tally.busy), (2, False))
        trial.__exit__(None, None, None)
        self.assertEqual((tally.log, tally.number("00"), tally.busy), ((("11", 2), ("00", 1)), 1, False))
        trial.__exit__(None, None, None)
        self.assertEqual((tally.log, tally.number("00"), tally.number("11"), tally.busy), ((("11", 2),), 0, 2, False))
        tally.do(("11", 1))
        self.assertEqual(tally.number("11"), 3)

    def test_do_all_within_a_trial(self):
        tally = Tally(AB)
        with tally.trial():
            tally.do_all((("11", 2), ("00", 1)))
            self.assertEqual(len(tally), 2)
        self.assertEqual((len(tally), tally.number("11")), (0, 0))


if __name__ == "__main__":
    unittest.main()
