"""Couplings: numbers of upper rows sent down to lower rows, until all that these ask for is filled."""

from wishesrise.rows import every_row, lies_above, rows_below


def sent_down(size, has, asks):
    """Return what each row of so many signs sends to each row below it, by pairs of rows, None if not all can be sent.

    `has` and `asks` tell for each row, in the order of rows, how much it sends and how much it asks for.
    """
    rows = every_row(size)
    left = dict(zip(rows, has))
    wanted = dict(zip(rows, asks))
    sent = {}
    for start in rows:
        while left[start] > 0:
            way = _shortest_way(start, wanted, sent)
            if way is None:
                return None
            _send(way, left, wanted, sent)
    return sent


def _shortest_way(start, wanted, sent):
    """Return a way from an upper row to a lower one that asks for more, None if there is none.

    Upper and lower rows alternate on it: from a lower row that is full it goes on to an upper row that sends to this
    one and can send elsewhere instead. Shortest ways are few, however great the numbers are.
    """
    ways = [(start,)]
    reached = {start: True}
    while len(ways) > 0:
        for way in ways:
            for lower in rows_below(way[-1]):
                if wanted[lower] > 0:
                    return way + (lower,)
        ways = _longer_ways(ways, sent, reached)
    return None


def _longer_ways(ways, sent, reached):
    """Return these ways, each longer by a lower and an upper row, to all upper rows that are not reached yet."""
    longer = []
    for way in ways:
        for (upper, lower), number in sent.items():
            if number > 0 and upper not in reached and lies_above(way[-1], lower):
                reached[upper] = True
                longer.append(way + (lower, upper))
    return longer


def _send(way, left, wanted, sent):
    """Send as much as can be sent on a way."""
    gains = list(zip(way[::2], way[1::2]))
    losses = list(zip(way[2::2], way[1::2]))
    number = min([left[way[0]], wanted[way[-1]]] + [sent[pair] for pair in losses])
    left[way[0]] -= number
    wanted[way[-1]] -= number
    for pair in gains:
        sent[pair] = sent.get(pair, 0) + number
    for pair in losses:
        sent[pair] -= number
