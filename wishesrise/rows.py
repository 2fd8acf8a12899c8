"""Rows of signs and lots of them, by the number of signs alone.

Nothing is examined here: callers pass rows and lots that they have checked.
"""


def every_row(size):
    """Return the tuple of all rows of so many signs, in their order."""
    rows = [""]
    for _ in range(size):
        rows = [row + sign for row in rows for sign in "01"]
    return tuple(rows)


def place_of(row):
    """Return the place of a row among all rows of as many signs, from 0 on."""
    return int(row, 2)


def bits_of(lot):
    """Return a number that has a bit for each row of a lot, so that `&` gives the bits of what two lots have."""
    return sum([1 << place_of(row) for row in lot])


def lies_above(upper, lower):
    """Tell whether a row lies above another one of as many signs."""
    return all([high == "1" or low == "0" for high, low in zip(upper, lower)])


def or_of(one, two):
    """Return the or of two rows of as many signs."""
    return "".join(["1" if "1" in (left, right) else "0" for left, right in zip(one, two)])


def and_of(one, two):
    """Return the and of two rows of as many signs."""
    return "".join(["0" if "0" in (left, right) else "1" for left, right in zip(one, two)])


def signs_at(row, places):
    """Return the signs that a row has at these places."""
    return "".join([row[place] for place in places])


def rows_above(row):
    """Return the tuple of all rows above a row, itself included, in their order."""
    return tuple([upper for upper in every_row(len(row)) if lies_above(upper, row)])


def rows_below(row):
    """Return the tuple of all rows that a row lies above, itself included, in their order."""
    return tuple([lower for lower in every_row(len(row)) if lies_above(row, lower)])


def is_over_some(row, lows):
    """Tell whether a row lies above at least one of these rows."""
    return any([lies_above(row, low) for low in lows])


def is_least(row, lot):
    """Tell whether a row of a lot lies above no other row of it."""
    return not is_over_some(row, [low for low in lot if low != row])


def unrisen_row(lot):
    """Return the first row of a lot that has one above it missing, None if the lot is rising."""
    for row in lot:
        if not all([upper in lot for upper in rows_above(row)]):
            return row
    return None
