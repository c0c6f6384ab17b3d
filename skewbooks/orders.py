"""Orders in which all rows of a ledger can have come, each with a number.

An order is found row by row. What is kept of the rows that are left is by how much each must be later than each other
one (the lows), with all that is known already: that they come behind the rows that are placed.
"""

from skewbooks.errors import NoNumber, NoOrder, TooMany
from skewbooks.ledgers import rows_of
from skewbooks.moments import earliest
from skewbooks.pairs import all_lows
from skewbooks.words import is_whole

MOST_ORDERED = 7
MOST_ORDERS = 200


def first_rows(lows):
    """The rows, rising, each of which can come first of all that are left."""
    rows = sorted({row for row, other in lows})
    return [row for row in rows if all([lows[(other, row)] <= 0 for other in rows])]


def lows_behind(lows, first):
    """The lows of the rows left where this one comes first of all."""
    rest = [row for row in sorted({row for row, other in lows}) if row != first]
    # The first row leads to each of the rest, 0 more: a new way from one row to another goes through it just once.
    onward = {row: max([lows[(other, row)] for other in rest]) for row in rest}
    return {
        (row, other): max(lows[(row, other)], lows[(row, first)] + onward[other])
        for row in rest for other in rest
    }


def orders(ledger):
    """All orders that can be, rising."""
    earliest(ledger)
    names = rows_of(ledger)
    if len(names) > MOST_ORDERED:
        raise TooMany("more rows than are put in all orders")
    begun = [((), all_lows(ledger))]
    for place in range(len(names)):
        begun = [(order + (row,), lows_behind(lows, row)) for order, lows in begun for row in first_rows(lows)]
        # Each order that is begun can be brought to an end, so there are at least as many whole ones.
        if len(begun) > MOST_ORDERS:
            raise TooMany("more orders than are told")
    return [order for order, lows in begun]


def order_at(ledger, number):
    """The order with this number."""
    known = orders(ledger)
    if not is_whole(number) or not 0 <= number < len(known):
        raise NoNumber("the number of no order")
    return known[number]


def number_of(ledger, order):
    """The number of the order."""
    known = orders(ledger)
    # Things of any kind are asked for their kind ahead of being compared.
    if not isinstance(order, tuple) or not all([isinstance(row, str) for row in order]):
        raise NoOrder("no tuple of texts")
    if order not in known:
        raise NoOrder("no order that can be")
    return known.index(order)


def plain_order(ledger):
    """The order by least moments, rows with the same one by their names."""
    return tuple([row for moment, row in sorted([(moment, row) for row, moment in earliest(ledger)])])
