"""Moments: when each row can have been written at the earliest and at the latest."""

from skewbooks.bounds import lead_table
from skewbooks.ledgers import need_row
from skewbooks.settling import chain_back, greatest_chain, placing_by, pushed


def earliest(ledger):
    """The placing of all least moments."""
    return placing_by(lead_table(ledger))


def back_table(ledger):
    """The bounds of a ledger that has a placing, each leading back: chains to None begin there in this table."""
    # A ring found in this table would run backwards, so a ledger that quarrels is refused ahead of it.
    earliest(ledger)
    return {bound: (end, start, more) for bound, (start, end, more) in lead_table(ledger).items()}


def latest(ledger):
    """The placing of all greatest moments."""
    return tuple([(row, -least) for row, least in placing_by(back_table(ledger))])


def moments(ledger, row):
    """The row's least and greatest moment in all placings."""
    least = dict(earliest(ledger))
    need_row(ledger, row)
    return (least[row], dict(latest(ledger))[row])


def chain_to(ledger, row):
    """A chain from None to the row whose sum is its least moment."""
    earliest(ledger)
    need_row(ledger, row)
    return greatest_chain(lead_table(ledger), None, row)


def chain_from(ledger, row):
    """A chain from the row to None whose sum is its greatest moment with the other sign."""
    table = back_table(ledger)
    sums, last = pushed(table, {None: 0})
    need_row(ledger, row)
    return chain_back(table, last, row)
