"""Shares to try things with."""

from wishesrise.shares import Shares


def like():
    """Return shares of two marks that help one another."""
    return Shares(("a", "b"), (2, 1, 1, 2))


def odd():
    """Return shares of two marks that hinder one another."""
    return Shares(("a", "b"), (1, 2, 2, 1))


def lamps():
    """Return shares of a lamp and a door."""
    return Shares(("lamp", "door"), (3, 1, 0, 2))
