"""Settling: moments that keep to all bounds of a table, or a ring of them that quarrels.

Sums are pushed along the bounds until each place has the greatest sum of a chain that leads to it. A place that is
still raised in a turn later than there are places goes round a ring whose sum is 1 or more.
"""

from skewbooks.bounds import lead_table
from skewbooks.errors import NoPlacing


def raise_once(table, sums, last):
    """Raise each place's sum to what the bounds ask, once through all of them; give the places that were raised."""
    raised = []
    for bound, (start, end, more) in table.items():
        if start in sums and (end not in sums or sums[end] < sums[start] + more):
            sums[end] = sums[start] + more
            last[end] = bound
            raised.append(end)
    return raised


def ring_behind(table, last, place):
    """The ring to which one comes by going back from the place, from each by the bound that raised it last."""
    # So many steps lead through all of the way that isn't in the ring.
    for step in range(len(last)):
        place = table[last[place]][0]
    ring = [last[place]]
    start = table[ring[-1]][0]
    while start != place:
        ring.append(last[start])
        start = table[ring[-1]][0]
    return tuple(reversed(ring))


def pushed(table, begun):
    """The greatest sum of a chain to each place, begun with these sums, and the bound that raised each place last."""
    sums = dict(begun)
    last = {}
    raised = raise_once(table, sums, last)
    turns = 1
    while raised:
        # A place raised in turn k has a way of k bounds behind it: with no more places than that it has met itself.
        if turns >= len(sums):
            raise NoPlacing(ring_behind(table, last, raised[-1]))
        raised = raise_once(table, sums, last)
        turns += 1
    return (sums, last)


def chain_back(table, last, place):
    """The bounds by which the place was reached from where no bound raised the sum, the last one first."""
    chain = []
    while place in last:
        chain.append(last[place])
        place = table[last[place]][0]
    return tuple(chain)


def greatest_chain(table, start, end):
    """A chain from the start to the end whose sum is the greatest; () from a place to itself."""
    sums, last = pushed(table, {start: 0})
    return tuple(reversed(chain_back(table, last, end)))


def placing_by(table):
    """Of all moments that keep to the bounds of the table, which lead to each row from None, the least ones."""
    sums, last = pushed(table, {None: 0})
    return tuple([(row, sums[row]) for row in sorted([place for place in sums if place is not None])])


def placed(ledger):
    """("placing", placing), or ("quarrel", ring) with a bare ring whose sum is 1 or more."""
    try:
        return ("placing", placing_by(lead_table(ledger)))
    except NoPlacing as quarrel:
        return ("quarrel", quarrel.ring)
