"""Marks apart: whether rising lots of one group of marks help those of the other marks."""

from itertools import combinations

from wishesrise.lots import all_rising
from wishesrise.rows import every_row, signs_at
from wishesrise.shares_checks import check_shares


def hinders_apart(shares):
    """Tell whether no rising lots help one another that are told by marks apart."""
    return helping_apart(shares) is None


def helping_apart(shares):
    """Return the first triple (group, A, B) of lots that help one another, told by marks apart, None if there is none.

    The group has the first mark and not all of them. A is a rising lot over the group, B one over the other marks.
    """
    check_shares(shares)
    size = len(shares.marks)
    for places in _groups(size):
        others = tuple([place for place in range(size) if place not in places])
        pair = _helping_lots(shares, places, others)
        if pair is not None:
            one, two = pair
            return _marks_at(shares.marks, places), one, two
    return None


def _groups(size):
    """Return the places of each group that has the first mark and not all, by fewer marks, then by their places."""
    groups = []
    for many in range(size - 1):
        groups.extend([(0,) + more for more in combinations(range(1, size), many)])
    return groups


def _marks_at(marks, places):
    """Return the marks at these places."""
    return tuple([marks[place] for place in places])


def _helping_lots(shares, places, others):
    """Return the first pair of rising lots over the marks at these places, and at the others, that help one another."""
    table = _numbers_by_parts(shares, places, others)
    everything = every_row(len(others))
    wanted = all_rising(_marks_at(shares.marks, others))
    for one in all_rising(_marks_at(shares.marks, places)):
        top = _sum_in(table, one, everything)
        for two in wanted:
            side = _sum_in(table, every_row(len(places)), two)
            if shares.total * _sum_in(table, one, two) > top * side:
                return one, two
    return None


def _numbers_by_parts(shares, places, others):
    """Return the numbers of all rows, by the pair of what a row has at these places and at the others."""
    rows = every_row(len(shares.marks))
    return {(signs_at(row, places), signs_at(row, others)): number for row, number in zip(rows, shares.numbers)}


def _sum_in(table, one, two):
    """Return the sum of the rows of which one part is in one lot, and the other part in the other."""
    return sum([table[(x, y)] for x in one for y in two])
