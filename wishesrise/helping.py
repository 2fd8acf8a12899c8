"""Whether lots help or hinder one another."""

from wishesrise.checks import check_lot
from wishesrise.lots import all_rising
from wishesrise.rows import bits_of
from wishesrise.shares_checks import check_shares


def help_of(shares, one, two):
    """Return the help of two lots, rising or not."""
    check_shares(shares)
    check_lot(one, len(shares.marks))
    check_lot(two, len(shares.marks))
    both = tuple([row for row in one if row in two])
    return shares.total * shares.sum_of(both) - shares.sum_of(one) * shares.sum_of(two)


def hindering(shares):
    """Return the first pair of rising lots that hinder one another, None if there is none."""
    check_shares(shares)
    lots = _lots_with_bits(shares)
    sums = _sums_by_bits(shares, lots)
    for place in range(len(lots)):
        found = _hindering_at(place, lots, sums, shares.total)
        if len(found) > 0:
            _, one, two = found[0]
            return one, two
    return None


def is_kind(shares):
    """Tell whether no two rising lots hinder one another."""
    return hindering(shares) is None


def most_hindering(shares):
    """Return the first pair of rising lots with the least help, None if no two hinder one another."""
    check_shares(shares)
    lots = _lots_with_bits(shares)
    sums = _sums_by_bits(shares, lots)
    found = []
    for place in range(len(lots)):
        found.extend(_hindering_at(place, lots, sums, shares.total))
    if len(found) == 0:
        return None
    # Of several that are least, min takes the first one.
    _, one, two = min(found, key=lambda triple: triple[0])
    return one, two


def _lots_with_bits(shares):
    """Return the pairs of each rising lot and its bits, in the order of lots."""
    return [(lot, bits_of(lot)) for lot in all_rising(shares.marks)]


def _sums_by_bits(shares, lots):
    """Return the sum of each rising lot, by its bits."""
    return {bits: shares.sum_of(lot) for lot, bits in lots}


def _hindering_at(place, lots, sums, total):
    """Return the triples (help, A, B) of the lot A at this place and each B, not ahead of it, that hinders it."""
    one, bits = lots[place]
    # What is in two rising lots is a rising lot, too: so its sum is among the sums.
    found = [(total * sums[bits & mask] - sums[bits] * sums[mask], two) for two, mask in lots[place:]]
    return [(worth, one, two) for worth, two in found if worth < 0]
