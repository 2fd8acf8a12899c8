"""Claims with certificates, for the checker."""

from wishesrise.above import coupling, less_at
from wishesrise.checks import check_rising
from wishesrise.fitting import failing
from wishesrise.helping import help_of, hindering
from wishesrise.shares_checks import check_shares


def certify_hindering(shares, one, two):
    """Return the claim that two rising lots hinder one another, and its certificate, None if they do not."""
    check_shares(shares)
    check_rising(one, len(shares.marks))
    check_rising(two, len(shares.marks))
    worth = help_of(shares, one, two)
    return (("hinder", shares.text(), one, two), worth) if worth < 0 else None


def certify_fit(shares):
    """Return the claim that shares fit, or that they do not, and its certificate."""
    pair = failing(shares)
    return (("fit", shares.text()), ()) if pair is None else (("not fit", shares.text()), pair)


def certify_kind(shares):
    """Return the claim that shares are kind, or that they are not, and its certificate."""
    pair = hindering(shares)
    return (("kind", shares.text()), ()) if pair is None else (("not kind", shares.text()), pair)


def certify_above(shares, other):
    """Return the claim that the first shares lie above the others, or that they do not, and its certificate."""
    lot = less_at(shares, other)
    if lot is not None:
        return ("not above", shares.text(), other.text()), lot
    return ("above", shares.text(), other.text()), coupling(shares, other)
