"""The texts of lots and of shares."""

from wishesrise.checks import are_marks, is_row
from wishesrise.limits import MOST_NUMBER
from wishesrise.rows import every_row

MARKS_WORD = "marks "
NO_ROWS = "none"
FIGURES = "0123456789"


def lot_text(lot):
    """Return the text of a lot."""
    if len(lot) == 0:
        return NO_ROWS
    return " ".join(lot)


def shares_text(marks, numbers):
    """Return the text of the shares with these marks and numbers."""
    lines = [f"{row}: {number}" for row, number in zip(every_row(len(marks)), numbers) if number > 0]
    return "\n".join([MARKS_WORD + ", ".join(marks)] + lines)


def shares_parts(text):
    """Return the pair (marks, numbers) of a text of shares, None if the string is none."""
    first, *lines = text.split("\n")
    marks = _marks_in(first)
    if marks is None:
        return None
    numbers = _numbers_in(lines, len(marks))
    if numbers is None:
        return None
    return marks, numbers


def _marks_in(line):
    """Return the marks that the first row of a text tells, None if it tells none."""
    if not line.startswith(MARKS_WORD):
        return None
    marks = tuple(line[len(MARKS_WORD):].split(", "))
    return marks if are_marks(marks) else None


def _numbers_in(lines, size):
    """Return the numbers that the other rows of a text tell, None if they are not as they must be."""
    # Without a row all numbers would be 0, and no shares have them.
    if len(lines) == 0:
        return None
    told = {}
    last = ""
    for line in lines:
        row, _, figures = line.partition(": ")
        number = _number_in(figures)
        if not is_row(row, size) or row <= last or number is None:
            return None
        told[row] = number
        last = row
    return tuple([told.get(row, 0) for row in every_row(size)])


def _number_in(figures):
    """Return the number above 0 that these figures write, None if they write none that shares may have."""
    if figures == "" or figures.startswith("0") or not all([figure in FIGURES for figure in figures]):
        return None
    # Python itself refuses to read thousands of figures.
    if len(figures) > len(str(MOST_NUMBER)):
        return None
    number = int(figures)
    return number if number <= MOST_NUMBER else None
