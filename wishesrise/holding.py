"""Holding marks, and seeing some marks alone."""

from itertools import combinations

from wishesrise.checks import check_mark, check_sign, check_some_marks
from wishesrise.errors import NoShares
from wishesrise.helping import hindering
from wishesrise.rows import every_row, signs_at
from wishesrise.shares import Shares
from wishesrise.shares_checks import check_shares


def held(shares, mark, sign):
    """Return the Shares over the other marks where a mark has this sign."""
    check_shares(shares)
    check_mark(mark, shares.marks)
    check_sign(sign)
    part = _part(shares, (shares.marks.index(mark),), sign)
    if part is None:
        raise NoShares()
    return part


def seen(shares, marks):
    """Return the Shares of some marks alone."""
    check_shares(shares)
    check_some_marks(marks, shares.marks)
    places = [shares.marks.index(mark) for mark in marks]
    sums = {row: 0 for row in every_row(len(marks))}
    for row, number in zip(every_row(len(shares.marks)), shares.numbers):
        sums[signs_at(row, places)] += number
    # A sum that is too great is told by Shares, with its index.
    return Shares(marks, tuple(sums.values()))


def is_kind_held(shares):
    """Tell whether shares are kind however marks are held."""
    return hindering_held(shares) is None


def hindering_held(shares):
    """Return the first pair (holds, pair) of marks held and rising lots that hinder one another then, None for none."""
    check_shares(shares)
    for places, signs in _ways_to_hold(len(shares.marks)):
        part = _part(shares, places, signs)
        pair = None if part is None else hindering(part)
        if pair is not None:
            return tuple([(shares.marks[place], sign) for place, sign in zip(places, signs)]), pair
    return None


def _part(shares, places, signs):
    """Return the Shares where the marks at these places have these signs, None if there are none."""
    marks = tuple([mark for place, mark in enumerate(shares.marks) if place not in places])
    rows = every_row(len(shares.marks))
    numbers = tuple([number for row, number in zip(rows, shares.numbers) if signs_at(row, places) == signs])
    if len(marks) == 0 or sum(numbers) == 0:
        return None
    return Shares(marks, numbers)


def _ways_to_hold(size):
    """Return all ways to hold marks, one at least being left, as pairs (places, signs).

    Fewer marks come first, then earlier places, then earlier signs.
    """
    ways = []
    for many in range(size):
        for places in combinations(range(size), many):
            ways.extend([(places, signs) for signs in every_row(many)])
    return ways
