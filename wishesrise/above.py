"""Whether shares lie above others."""

from wishesrise.checks import check_lot
from wishesrise.couplings import sent_down
from wishesrise.lots import all_rising
from wishesrise.rows import and_of, every_row, or_of
from wishesrise.shares_checks import check_same_marks, check_shares, check_two


def is_above(shares, other):
    """Tell whether the first shares lie above the others."""
    return less_at(shares, other) is None


def less_at(shares, other):
    """Return the first rising lot with less share in the first shares, None if there is none."""
    check_two(shares, other)
    for lot in all_rising(shares.marks):
        if has_less(shares, other, lot):
            return lot
    return None


def has_less(shares, other, lot):
    """Tell whether a lot has less share in the first shares than in the others."""
    return shares.sum_of(lot) * other.total < other.sum_of(lot) * shares.total


def coupling(shares, other):
    """Return a coupling of the first shares above the others, None if there is none."""
    check_two(shares, other)
    has = [number * other.total for number in shares.numbers]
    asks = [number * shares.total for number in other.numbers]
    sent = sent_down(len(shares.marks), has, asks)
    if sent is None:
        return None
    return tuple([(upper, lower, number) for (upper, lower), number in sorted(sent.items()) if number > 0])


def passes(shares, other):
    """Tell whether the test of rows two by two shows that the first shares lie above the others."""
    check_two(shares, other)
    return _four_hold(shares, other, shares, other)


def four(shares, other, third, fourth):
    """Tell whether for any two rows the product in the first two shares is at most that in the last two."""
    _check_four(shares, other, third, fourth)
    check_same_marks(shares, other, third, fourth)
    return _four_hold(shares, other, third, fourth)


def four_sums(shares, other, third, fourth, one, two):
    """Return the pair of products of sums: of two lots in the first two shares, of all ors and ands in the last two."""
    _check_four(shares, other, third, fourth)
    check_lot(one, len(shares.marks))
    check_lot(two, len(shares.marks))
    check_same_marks(shares, other, third, fourth)
    ors = tuple(sorted(set([or_of(x, y) for x in one for y in two])))
    ands = tuple(sorted(set([and_of(x, y) for x in one for y in two])))
    return shares.sum_of(one) * other.sum_of(two), third.sum_of(ors) * fourth.sum_of(ands)


def _check_four(shares, other, third, fourth):
    """Raise NotShares for the first of four that is no Shares."""
    for value in (shares, other, third, fourth):
        check_shares(value)


def _four_hold(shares, other, third, fourth):
    """Tell whether no two rows speak against the products of four Shares."""
    rows = every_row(len(shares.marks))
    return all([_four_hold_at(shares, other, third, fourth, x, y) for x in rows for y in rows])


def _four_hold_at(shares, other, third, fourth, x, y):
    """Tell whether these two rows do not speak against the products of four Shares."""
    return shares.number(x) * other.number(y) <= third.number(or_of(x, y)) * fourth.number(and_of(x, y))
