"""Making Shares: of others, and of ties between marks."""

from wishesrise.checks import check_marks, check_ties
from wishesrise.rows import every_row
from wishesrise.shares import Shares
from wishesrise.shares_checks import check_shares, check_two


def beside(shares, other):
    """Return the Shares over the marks of both, those of the first ahead, with the products of their numbers."""
    check_shares(shares)
    check_shares(other)
    # Marks that are none, and a product that is too great, are told by Shares, with their index.
    return Shares(shares.marks + other.marks, tuple([x * y for x in shares.numbers for y in other.numbers]))


def mixed(shares, other):
    """Return the Shares with the sums of the numbers of both."""
    check_two(shares, other)
    # A sum that is too great is told by Shares, with its index.
    return Shares(shares.marks, tuple([x + y for x, y in zip(shares.numbers, other.numbers)]))


def of_ties(marks, ties):
    """Return the Shares made of ties: triples (X, Y, factor) of two different marks and a factor."""
    check_marks(marks)
    check_ties(ties, marks)
    placed = [(marks.index(one), marks.index(two), factor) for one, two, factor in ties]
    return Shares(marks, tuple([_tied(row, placed) for row in every_row(len(marks))]))


def _tied(row, placed):
    """Return the product of the factors of all ties whose marks have the same sign in a row."""
    worth = 1
    for one, two, factor in placed:
        if row[one] == row[two]:
            worth = worth * factor
    return worth
