"""Desks: shares that change number by number, and the promises that they keep all along."""

from wishesrise.checks import check_row, is_integer, is_share
from wishesrise.errors import Broken, InvalidIndex, InvalidNumber, InvalidPromise, NoShares, NothingToUndo
from wishesrise.promises import is_kept, is_promise
from wishesrise.rows import place_of
from wishesrise.shares import Shares
from wishesrise.shares_checks import check_shares


class Desk:
    """Shares with promises; each change can be taken back."""

    def __init__(self, shares):
        check_shares(shares)
        self.shares = shares
        self.promises = ()
        # The shares and promises ahead of each change that can be taken back.
        self.past = ()

    def __len__(self):
        return len(self.past)

    def put(self, row, number):
        """Give a row this number from now on."""
        check_row(row, len(self.shares.marks))
        if not is_share(number):
            raise InvalidNumber(number)
        shares = _with_number(self.shares, row, number)
        for index, promise in enumerate(self.promises):
            if not is_kept(promise, shares):
                raise Broken(index)
        self._change(shares, self.promises)

    def promise(self, promise):
        """Make one more promise, behind the others."""
        if not is_promise(promise, self.shares.marks):
            raise InvalidPromise(promise)
        if not is_kept(promise, self.shares):
            raise Broken(len(self.promises))
        self._change(self.shares, self.promises + (promise,))

    def lift(self, index):
        """Take a promise away."""
        if not is_integer(index) or not 0 <= index < len(self.promises):
            raise InvalidIndex(index)
        self._change(self.shares, self.promises[:index] + self.promises[index + 1:])

    def undo(self):
        """Take back the last change that has not been taken back."""
        if len(self.past) == 0:
            raise NothingToUndo()
        self.shares, self.promises = self.past[-1]
        self.past = self.past[:-1]

    def trial(self):
        """Return an object for `with`, behind whose rows the desk is again as it was at their beginning."""
        return DeskTrial(self)

    def _change(self, shares, promises):
        """Take these shares and promises from now on, and keep those that were."""
        self.past = self.past + ((self.shares, self.promises),)
        self.shares = shares
        self.promises = promises


class DeskTrial:
    """What a desk was at the beginning of the rows of a `with`, of several ones if it was entered again."""

    def __init__(self, desk):
        self.desk = desk
        # What is kept for the rows that end next; None outside of all rows.
        self.kept = None

    def __enter__(self):
        self.kept = KeptDesk(self.desk, self.kept)
        return self.desk

    def __exit__(self, kind, value, trace):
        kept = self.kept
        self.desk.shares = kept.shares
        self.desk.promises = kept.promises
        self.desk.past = kept.past
        self.kept = kept.before


class KeptDesk:
    """What a desk was at the beginning of some rows, and before it what is kept for the rows around them."""

    def __init__(self, desk, before):
        self.shares = desk.shares
        self.promises = desk.promises
        self.past = desk.past
        self.before = before


def tried(desk, act):
    """Return what act(desk) returns, within a trial."""
    with desk.trial():
        return act(desk)


def _with_number(shares, row, number):
    """Return the Shares in which this row has this number; raise NoShares if all would be 0."""
    place = place_of(row)
    numbers = shares.numbers[:place] + (number,) + shares.numbers[place + 1:]
    if sum(numbers) == 0:
        raise NoShares()
    return Shares(shares.marks, numbers)
