"""Tallies: how often each row was told, deed by deed."""

from wishesrise.checks import check_marks, check_row, is_integer, is_row
from wishesrise.errors import Busy, InvalidDeeds, NoShares, NothingToUndo, TooMany
from wishesrise.limits import MOST_NUMBER
from wishesrise.rows import place_of
from wishesrise.shares import Shares

MOST_TIMES = 10 ** 6


class Tally:
    """Numbers of rows that grow by deeds. A deed is a pair (row, number): the row came so often more."""

    def __init__(self, marks):
        check_marks(marks)
        self.marks = marks
        self.log = ()
        self.busy = False
        # Numbers and log are never altered but replaced, so that keeping them keeps how all was.
        self.numbers = (0,) * (1 << len(marks))

    def __len__(self):
        return len(self.log)

    def as_shares(self):
        """Return the Shares of what was told so far; raise NoShares without any."""
        if sum(self.numbers) == 0:
            raise NoShares()
        return Shares(self.marks, self.numbers)

    def number(self, row):
        """Return how often a row was told."""
        check_row(row, len(self.marks))
        return self.numbers[place_of(row)]

    def do(self, deed):
        """Do a deed."""
        self._check_free()
        self.numbers = self._numbers_behind(deed, 0)
        self.log = self.log + (deed,)

    def do_all(self, deeds, *, watch=None):
        """Do all deeds or none; behind each of them call watch(tally, index) unless it is None."""
        self._check_free()
        if not isinstance(deeds, tuple):
            raise InvalidDeeds(None)
        numbers, log = self.numbers, self.log
        self.busy = True
        try:
            self._do_each(deeds, watch)
            numbers, log = self.numbers, self.log
        finally:
            self.numbers, self.log = numbers, log
            self.busy = False

    def undo(self):
        """Take back the last deed."""
        self._check_free()
        if len(self.log) == 0:
            raise NothingToUndo()
        row, number = self.log[-1]
        self.numbers = _grown(self.numbers, row, -number)
        self.log = self.log[:-1]

    def trial(self):
        """Return an object for `with`, behind whose rows the tally is again as it was at their beginning."""
        self._check_free()
        return TallyTrial(self)

    def _check_free(self):
        """Raise Busy while do_all is at work."""
        if self.busy:
            raise Busy()

    def _numbers_behind(self, deed, index):
        """Return the numbers as they are behind a deed; raise what speaks against it, with this index."""
        if not is_deed(deed, len(self.marks)):
            raise InvalidDeeds(index)
        row, number = deed
        if self.number(row) + number > MOST_NUMBER:
            raise TooMany(MOST_NUMBER)
        return _grown(self.numbers, row, number)

    def _do_each(self, deeds, watch):
        """Do deeds one by one, until one raises an error or the watch does."""
        for index, deed in enumerate(deeds):
            self.numbers = self._numbers_behind(deed, index)
            if watch is not None:
                self.log = self.log + (deed,)
                watch(self, index)
        if watch is None:
            # Nobody looks at the log in between: a million deeds would make a million logs, each as long as they.
            self.log = self.log + deeds


class TallyTrial:
    """What a tally was at the beginning of the rows of a `with`, of several ones if it was entered again."""

    def __init__(self, tally):
        self.tally = tally
        # What is kept for the rows that end next; None outside of all rows.
        self.kept = None

    def __enter__(self):
        self.kept = KeptTally(self.tally, self.kept)
        return self.tally

    def __exit__(self, kind, value, trace):
        kept = self.kept
        self.tally.numbers = kept.numbers
        self.tally.log = kept.log
        self.kept = kept.before


class KeptTally:
    """What a tally was at the beginning of some rows, and before it what is kept for the rows around them."""

    def __init__(self, tally, before):
        self.numbers = tally.numbers
        self.log = tally.log
        self.before = before


def attempt(tally, act):
    """Return what act(tally) returns, within a trial."""
    with tally.trial():
        return act(tally)


def is_deed(value, size):
    """Tell whether a value is a deed over rows of so many signs."""
    if not isinstance(value, tuple) or len(value) != 2:
        return False
    row, number = value
    return is_row(row, size) and is_integer(number) and 1 <= number <= MOST_TIMES


def _grown(numbers, row, more):
    """Return numbers in which that of this row is so much greater."""
    place = place_of(row)
    return numbers[:place] + (numbers[place] + more,) + numbers[place + 1:]
