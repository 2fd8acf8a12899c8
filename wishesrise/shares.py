"""Shares over marks: how often each row came."""

from math import gcd

from wishesrise.checks import check_lot, check_marks, check_numbers, check_row
from wishesrise.errors import InvalidText
from wishesrise.rows import place_of
from wishesrise.texts import shares_parts, shares_text


class Shares:
    """A whole number for each row of the marks, not all 0."""

    def __init__(self, marks, numbers):
        check_marks(marks)
        check_numbers(numbers, 1 << len(marks))
        self.marks = marks
        self.numbers = numbers
        self.total = sum(numbers)

    def __len__(self):
        return len(self.numbers)

    def __eq__(self, other):
        return isinstance(other, Shares) and self.marks == other.marks and self.numbers == other.numbers

    def __str__(self):
        return str(self.text())

    def number(self, row):
        """Return the number of a row."""
        check_row(row, len(self.marks))
        return self.numbers[place_of(row)]

    def sum_of(self, one):
        """Return the sum of a lot, rising or not."""
        check_lot(one, len(self.marks))
        return sum([self.numbers[place_of(row)] for row in one])

    def share_of(self, one):
        """Return the share of a lot: a pair (top, bottom) without a common divisor above 1."""
        part = self.sum_of(one)
        common = gcd(part, self.total)
        return part // common, self.total // common

    def text(self):
        """Return the text of these shares."""
        return shares_text(self.marks, self.numbers)

    @classmethod
    def read(cls, text):
        """Return the shares with this text; raise InvalidText for what is none."""
        parts = shares_parts(text) if isinstance(text, str) else None
        if parts is None:
            raise InvalidText(text)
        marks, numbers = parts
        return cls(marks, numbers)
