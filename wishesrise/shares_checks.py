"""Examining Shares that are passed. What Shares themselves need to be examined is in checks."""

from wishesrise.errors import NotShares, OtherMarks
from wishesrise.shares import Shares


def check_shares(value):
    """Raise NotShares for what is no Shares."""
    if not isinstance(value, Shares):
        raise NotShares(value)


def check_two(shares, other):
    """Raise NotShares for the first of two that is no Shares, then OtherMarks if they have not the same marks."""
    check_shares(shares)
    check_shares(other)
    check_same_marks(shares, other)


def check_same_marks(first, *others):
    """Raise OtherMarks if not all of these Shares have the same marks in the same order."""
    for shares in others:
        if shares.marks != first.marks:
            raise OtherMarks()
