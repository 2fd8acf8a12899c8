"""A small checker: whether claims about shares are true, as their certificates show."""

from wishesrise.above import has_less
from wishesrise.checks import is_integer, is_rising_lot, is_row
from wishesrise.errors import InvalidText
from wishesrise.fitting import fits, speaks_against
from wishesrise.helping import help_of, is_kind
from wishesrise.rows import every_row, lies_above
from wishesrise.shares import Shares


def holds_claim(claim, certificate):
    """Tell whether a value is a claim and another one its certificate that shows it; nothing is ever raised."""
    if not isinstance(claim, tuple) or len(claim) < 2 or not isinstance(claim[0], str):
        return False
    word, text, *told = claim
    shares = _shares_told(text)
    if shares is None:
        return False
    if len(told) == 0 and word in OF_ONE:
        shows_one = OF_ONE[word]
        return shows_one(shares, certificate)
    if len(told) == 1 and word in OF_TWO:
        other = _shares_told(told[0])
        shows_two = OF_TWO[word]
        return other is not None and shares.marks == other.marks and shows_two(shares, other, certificate)
    return len(told) == 2 and word == "hinder" and _shows_hindering(shares, told, certificate)


def _shares_told(text):
    """Return the Shares with this text, None if the value is no text of shares."""
    try:
        return Shares.read(text)
    except InvalidText:
        return None


def _is_empty(value):
    """Tell whether a value is the empty tuple."""
    return isinstance(value, tuple) and len(value) == 0


def _is_pair(value):
    """Tell whether a value is a pair."""
    return isinstance(value, tuple) and len(value) == 2


def _are_rising(lots, size):
    """Tell whether all these values are rising lots of rows of so many signs."""
    return all([is_rising_lot(lot, size) for lot in lots])


def _shows_hindering(shares, lots, certificate):
    """Tell whether these two are rising lots that hinder one another, the certificate being their help."""
    if not _are_rising(lots, len(shares.marks)) or not is_integer(certificate):
        return False
    one, two = lots
    return certificate < 0 and certificate == help_of(shares, one, two)


def _shows_fit(shares, certificate):
    """Tell whether the shares fit; the certificate is empty, as all pairs of rows are gone through."""
    return _is_empty(certificate) and fits(shares)


def _shows_not_fit(shares, certificate):
    """Tell whether the certificate is a pair of rows that speaks against fitting."""
    if not _is_pair(certificate) or not all([is_row(row, len(shares.marks)) for row in certificate]):
        return False
    return speaks_against(shares, certificate)


def _shows_kind(shares, certificate):
    """Tell whether the shares are kind; the certificate is empty, as all pairs of rising lots are gone through."""
    return _is_empty(certificate) and is_kind(shares)


def _shows_not_kind(shares, certificate):
    """Tell whether the certificate is a pair of rising lots that hinder one another."""
    if not _is_pair(certificate) or not _are_rising(certificate, len(shares.marks)):
        return False
    one, two = certificate
    return help_of(shares, one, two) < 0


def _shows_above(first, second, certificate):
    """Tell whether the certificate is a coupling of the first shares above the second ones."""
    if not _are_links(certificate, len(first.marks)):
        return False
    sent = [number * second.total for number in first.numbers]
    taken = [number * first.total for number in second.numbers]
    rows = every_row(len(first.marks))
    return _sums_at(0, certificate, rows) == sent and _sums_at(1, certificate, rows) == taken


def _shows_not_above(first, second, certificate):
    """Tell whether the certificate is a rising lot with less share in the first shares than in the second ones."""
    return is_rising_lot(certificate, len(first.marks)) and has_less(first, second, certificate)


def _are_links(value, size):
    """Tell whether a value is a tuple of links over rows of so many signs, pairs of rows ascending, none twice."""
    if not isinstance(value, tuple):
        return False
    last = ("", "")
    for link in value:
        if not _is_link(link, size) or link[:2] <= last:
            return False
        last = link[:2]
    return True


def _is_link(value, size):
    """Tell whether a value is a triple of a row, a row below it or the same, and a whole number above 0."""
    if not isinstance(value, tuple) or len(value) != 3:
        return False
    upper, lower, number = value
    if not is_row(upper, size) or not is_row(lower, size) or not lies_above(upper, lower):
        return False
    return is_integer(number) and number > 0


def _sums_at(place, links, rows):
    """Return for each of these rows the sum of the numbers of all links that have it at this place."""
    sums = {row: 0 for row in rows}
    for link in links:
        sums[link[place]] += link[2]
    return list(sums.values())


OF_ONE = {"fit": _shows_fit, "not fit": _shows_not_fit, "kind": _shows_kind, "not kind": _shows_not_kind}
OF_TWO = {"above": _shows_above, "not above": _shows_not_above}
