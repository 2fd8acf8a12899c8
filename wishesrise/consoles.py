"""Consoles: answers to lines about shares."""

from wishesrise.checks import is_row
from wishesrise.errors import InvalidLine
from wishesrise.fitting import failing, fits, room
from wishesrise.helping import hindering, is_kind
from wishesrise.holding import is_kind_held
from wishesrise.lots import least_rows, rising
from wishesrise.shares_checks import check_shares
from wishesrise.texts import lot_text

MOST_ROWS = 16
NOTHING = "none"
NO_BOUND = "free"


class Console:
    """Answers lines about its shares."""

    def __init__(self, shares):
        check_shares(shares)
        self.shares = shares

    def say(self, line):
        """Return the answer to a line; raise InvalidLine for what is none."""
        answer = _answer(self.shares, line) if isinstance(line, str) else None
        if answer is None:
            raise InvalidLine(line)
        return answer


def _answer(shares, line):
    """Return the answer to a string, None if it is no line."""
    if line in WITHOUT_ROWS:
        tell = WITHOUT_ROWS[line]
        return tell(shares)
    word, *rows = line.split(" ")
    if not all([is_row(row, len(shares.marks)) for row in rows]):
        return None
    if word == "share" and 1 <= len(rows) <= MOST_ROWS:
        return _tell_share(shares, tuple(rows))
    if word == "number" and len(rows) == 1:
        return str(shares.number(rows[0]))
    if word == "room" and len(rows) == 1:
        return _tell_room(shares, rows[0])
    return None


def _tell_share(shares, rows):
    """Tell the share of the least rising lot that has these rows."""
    top, bottom = shares.share_of(rising(shares.marks, rows))
    return f"{top}/{bottom}"


def _tell_room(shares, row):
    """Tell the least and the greatest number that a row may have."""
    bounds = room(shares, row)
    if bounds is None:
        return NOTHING
    least, greatest = bounds
    return f"{least} {NO_BOUND if greatest is None else greatest}"


def _tell_marks(shares):
    """Tell the marks."""
    return " ".join(shares.marks)


def _tell_total(shares):
    """Tell the total."""
    return str(shares.total)


def _yes_or_no(holds):
    """Tell a truth."""
    return "yes" if holds else "no"


def _tell_fits(shares):
    """Tell whether the shares fit."""
    return _yes_or_no(fits(shares))


def _tell_kind(shares):
    """Tell whether the shares are kind."""
    return _yes_or_no(is_kind(shares))


def _tell_kind_held(shares):
    """Tell whether the shares are kind however marks are held."""
    return _yes_or_no(is_kind_held(shares))


def _tell_failing(shares):
    """Tell the rows that speak against fitting."""
    pair = failing(shares)
    return NOTHING if pair is None else " ".join(pair)


def _tell_hindering(shares):
    """Tell the least rows of the lots that hinder one another."""
    pair = hindering(shares)
    if pair is None:
        return NOTHING
    return " / ".join([lot_text(least_rows(shares.marks, lot)) for lot in pair])


WITHOUT_ROWS = {
    "marks": _tell_marks,
    "total": _tell_total,
    "fits": _tell_fits,
    "kind": _tell_kind,
    "kind held": _tell_kind_held,
    "failing": _tell_failing,
    "hindering": _tell_hindering,
}
