"""Examining what is passed: each check raises the error that the document names."""

from wishesrise.errors import InvalidLot, InvalidMarks, InvalidNumbers, InvalidRow, InvalidRows, InvalidTies
from wishesrise.errors import NotRising, UnknownMark
from wishesrise.limits import MOST_FACTOR, MOST_MARKS, MOST_NAME, MOST_NUMBER, MOST_TIES
from wishesrise.rows import unrisen_row

LETTERS = "abcdefghijklmnopqrstuvwxyz"


def is_name(value):
    """Tell whether a value is a name."""
    if not isinstance(value, str) or not 1 <= len(value) <= MOST_NAME:
        return False
    return all([letter in LETTERS for letter in value])


def is_row(value, size):
    """Tell whether a value is a row of so many signs."""
    if not isinstance(value, str) or len(value) != size:
        return False
    return all([sign in "01" for sign in value])


def is_integer(value):
    """Tell whether a value is an integer; truths are none."""
    return isinstance(value, int) and not isinstance(value, bool)


def is_share(value):
    """Tell whether a value may be a number of shares."""
    return is_integer(value) and 0 <= value <= MOST_NUMBER


def check_marks(marks):
    """Raise InvalidMarks for what is no marks."""
    if not isinstance(marks, tuple) or len(marks) == 0:
        raise InvalidMarks(None)
    for index, mark in enumerate(marks):
        if index >= MOST_MARKS or not is_name(mark) or mark in marks[:index]:
            raise InvalidMarks(index)


def are_marks(value):
    """Tell whether a value is marks."""
    try:
        check_marks(value)
    except InvalidMarks:
        return False
    return True


def is_mark_of(value, marks):
    """Tell whether a value is one of these marks."""
    # Other objects may call themselves equal to a mark.
    return isinstance(value, str) and value in marks


def check_mark(mark, marks):
    """Raise UnknownMark for what is none of these marks."""
    if not is_mark_of(mark, marks):
        raise UnknownMark(mark)


def check_some_marks(some, marks):
    """Raise InvalidMarks for what is no tuple of some of these marks, at least one, in their order."""
    if not isinstance(some, tuple) or len(some) == 0:
        raise InvalidMarks(None)
    left = marks
    for index, mark in enumerate(some):
        if not is_mark_of(mark, left):
            raise InvalidMarks(index)
        left = left[left.index(mark) + 1:]


def check_sign(sign):
    """Raise InvalidRow for what is no sign."""
    if not is_row(sign, 1):
        raise InvalidRow(sign)


def check_numbers(numbers, many):
    """Raise InvalidNumbers for what is no numbers of shares with so many rows."""
    if not isinstance(numbers, tuple) or len(numbers) < many:
        raise InvalidNumbers(None)
    for index, number in enumerate(numbers):
        if index >= many or not is_share(number):
            raise InvalidNumbers(index)
    if sum(numbers) == 0:
        raise InvalidNumbers(None)


def check_row(row, size):
    """Raise InvalidRow for what is no row of so many signs."""
    if not is_row(row, size):
        raise InvalidRow(row)


def check_rows(rows, size):
    """Raise InvalidRows for what is no tuple of rows of so many signs."""
    if not isinstance(rows, tuple):
        raise InvalidRows(None)
    for index, row in enumerate(rows):
        if not is_row(row, size):
            raise InvalidRows(index)


def check_lot(lot, size):
    """Raise InvalidLot for what is no lot of rows of so many signs."""
    if not isinstance(lot, tuple):
        raise InvalidLot(None)
    for index, row in enumerate(lot):
        if not is_row(row, size) or (index > 0 and row <= lot[index - 1]):
            raise InvalidLot(index)


def check_rising(lot, size):
    """Raise InvalidLot for what is no lot, then NotRising for one that is not rising."""
    check_lot(lot, size)
    row = unrisen_row(lot)
    if row is not None:
        raise NotRising(row)


def is_rising_lot(value, size):
    """Tell whether a value is a rising lot of rows of so many signs."""
    try:
        check_rising(value, size)
    except (InvalidLot, NotRising):
        return False
    return True


def is_tie(value, marks):
    """Tell whether a value is a tie between two of these marks."""
    if not isinstance(value, tuple) or len(value) != 3:
        return False
    one, two, factor = value
    if not is_mark_of(one, marks) or not is_mark_of(two, marks) or one == two:
        return False
    return is_integer(factor) and 1 <= factor <= MOST_FACTOR


def check_ties(ties, marks):
    """Raise InvalidTies for what is no tuple of ties between these marks."""
    if not isinstance(ties, tuple):
        raise InvalidTies(None)
    for index, tie in enumerate(ties):
        if index >= MOST_TIES or not is_tie(tie, marks):
            raise InvalidTies(index)
