"""Whether shares fit: products of numbers, tested on rows two by two."""

from wishesrise.checks import check_row
from wishesrise.rows import and_of, every_row, or_of, rows_above
from wishesrise.shares_checks import check_shares

# The least and the greatest number that some rows let a row have; a greatest one of None is no bound.
ANY_NUMBER = (0, None)
NO_NUMBER = (1, 0)


def fits(shares):
    """Tell whether shares fit."""
    return failing(shares) is None


def failing(shares):
    """Return the first pair of rows that speaks against fitting, None if there is none."""
    check_shares(shares)
    return _first_failing(shares, _crossing(len(shares.marks)))


def near_failing(shares):
    """Return the first such pair of rows that differ in just two marks, None if there is none."""
    check_shares(shares)
    return _first_failing(shares, [pair for pair in _crossing(len(shares.marks)) if _differences(pair) == 2])


def speaks_against(shares, pair):
    """Tell whether two rows, in any order, speak against fitting."""
    return _times(shares, _ends(pair)) < _times(shares, pair)


def climbs(shares):
    """Tell whether each mark comes with the other marks all the more, by products of numbers."""
    check_shares(shares)
    size = len(shares.marks)
    others = [(upper, lower) for lower in every_row(size - 1) for upper in rows_above(lower)]
    return all([_climbs_at(shares, place, upper, lower) for place in range(size) for upper, lower in others])


def room(shares, row):
    """Return the pair (least, greatest) of the numbers that a row may have, None if no number will do."""
    check_shares(shares)
    check_row(row, len(shares.marks))
    bounds = [_room_at(shares, row, pair) for pair in _crossing(len(shares.marks))]
    least = max([0] + [low for low, _ in bounds])
    tops = [high for _, high in bounds if high is not None]
    if len(tops) == 0:
        return least, None
    greatest = min(tops)
    return (least, greatest) if least <= greatest else None


def _crossing(size):
    """Return all pairs of rows of which none lies above the other, the first one ahead, in their order."""
    # Of other two rows, or and and are these rows themselves, so that both products are the same.
    rows = every_row(size)
    return [(x, y) for x in rows for y in rows if x < y and or_of(x, y) not in (x, y)]


def _ends(pair):
    """Return the pair of the or and the and of two rows."""
    x, y = pair
    return or_of(x, y), and_of(x, y)


def _times(shares, pair):
    """Return the product of the numbers of two rows."""
    x, y = pair
    return shares.number(x) * shares.number(y)


def _first_failing(shares, pairs):
    """Return the first of these pairs of rows that speaks against fitting, None if there is none."""
    for pair in pairs:
        if speaks_against(shares, pair):
            return pair
    return None


def _differences(pair):
    """Return in how many marks two rows differ."""
    x, y = pair
    return len([left for left, right in zip(x, y) if left != right])


def _climbs_at(shares, place, upper, lower):
    """Tell whether the mark at this place comes with the upper row of the other marks all the more."""
    along = _times(shares, (_with_sign(upper, place, "1"), _with_sign(lower, place, "0")))
    across = _times(shares, (_with_sign(lower, place, "1"), _with_sign(upper, place, "0")))
    return along >= across


def _with_sign(row, place, sign):
    """Return the row of all marks: a row of the other marks, and the sign of the mark at this place."""
    return row[:place] + sign + row[place:]


def _room_at(shares, row, pair):
    """Return the least and the greatest number of a row for which two rows do not speak against fitting."""
    ends = _ends(pair)
    if row in pair:
        return _at_most(_times(shares, ends), _number_beside(shares, row, pair))
    if row in ends:
        return _at_least(_times(shares, pair), _number_beside(shares, row, ends))
    return ANY_NUMBER if _times(shares, ends) >= _times(shares, pair) else NO_NUMBER


def _number_beside(shares, row, pair):
    """Return the number of that one of two rows that is not this row."""
    x, y = pair
    return shares.number(y if row == x else x)


def _at_most(bound, factor):
    """Return the least and the greatest number that is at most the bound, taken so many times."""
    return (0, bound // factor) if factor > 0 else ANY_NUMBER


def _at_least(bound, factor):
    """Return the least and the greatest number that is at least the bound, taken so many times."""
    if factor == 0:
        return ANY_NUMBER if bound == 0 else NO_NUMBER
    return (bound + factor - 1) // factor, None
