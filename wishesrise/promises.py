"""Promises that shares are to keep."""

from wishesrise.above import is_above
from wishesrise.checks import is_rising_lot
from wishesrise.fitting import fits
from wishesrise.helping import help_of, is_kind
from wishesrise.holding import is_kind_held
from wishesrise.shares import Shares

FITS = "fits"
KIND = "kind"
KIND_HELD = "kind held"
HELPS = "helps"
ABOVE = "above"


def is_promise(value, marks):
    """Tell whether a value is a promise for shares over these marks."""
    if not isinstance(value, tuple) or len(value) == 0 or not isinstance(value[0], str):
        return False
    word, *told = value
    if word in (FITS, KIND, KIND_HELD):
        return len(told) == 0
    if word == HELPS:
        return len(told) == 2 and all([is_rising_lot(lot, len(marks)) for lot in told])
    if word == ABOVE:
        return len(told) == 1 and isinstance(told[0], Shares) and told[0].marks == marks
    return False


def is_kept(promise, shares):
    """Tell whether shares keep a promise."""
    word, *told = promise
    if word == FITS:
        return fits(shares)
    if word == KIND:
        return is_kind(shares)
    if word == KIND_HELD:
        return is_kind_held(shares)
    if word == HELPS:
        one, two = told
        return help_of(shares, one, two) >= 0
    return is_above(shares, told[0])
