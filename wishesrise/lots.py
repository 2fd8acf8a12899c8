"""Lots of rows, and the rising ones among them."""

from wishesrise.checks import check_lot, check_marks, check_rising, check_rows
from wishesrise.rows import every_row, is_least, is_over_some, unrisen_row


def rows_of(marks):
    """Return the tuple of all rows of these marks, in their order."""
    check_marks(marks)
    return every_row(len(marks))


def is_rising(marks, one):
    """Tell whether a lot is rising."""
    check_marks(marks)
    check_lot(one, len(marks))
    return unrisen_row(one) is None


def rising(marks, rows):
    """Return the least rising lot that has all these rows, which come in any order."""
    check_marks(marks)
    check_rows(rows, len(marks))
    different = sorted(set(rows))
    return tuple([row for row in every_row(len(marks)) if is_over_some(row, different)])


def least_rows(marks, one):
    """Return the tuple of the least rows of a rising lot."""
    check_marks(marks)
    check_rising(one, len(marks))
    return tuple([row for row in one if is_least(row, one)])


def all_rising(marks):
    """Return the tuple of all rising lots, in their order."""
    check_marks(marks)
    lots = [(), ("",)]
    for _ in range(len(marks)):
        lots = [_with_mark(low, high) for low in lots for high in lots if _is_within(low, high)]
    return tuple(sorted(lots))


def _is_within(lot, wider):
    """Tell whether all rows of a lot are in a wider one."""
    return all([row in wider for row in lot])


def _with_mark(low, high):
    """Return the lot that is LOW where one more mark, ahead of the others, is not there, and HIGH where it is."""
    # It rises exactly if both do and LOW is within HIGH, so that no rising lot is left out and none comes twice.
    return tuple(["0" + row for row in low] + ["1" + row for row in high])
