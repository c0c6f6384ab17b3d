"""Bounds: all that a ledger tells of the moments of its rows, each by itself."""

from skewbooks.errors import NoBound
from skewbooks.ledgers import neighbours_in, rows_in
from skewbooks.words import is_whole


def clock_leads(house):
    """Where the bounds of a house's rows lead that come of how much its clock is off."""
    low, high = house[1:3]
    table = {}
    for row, reading in rows_in(house):
        table[("early", row)] = (None, row, reading - high)
        table[("late", row)] = (row, None, low - reading)
    return table


def next_leads(house):
    """Where the bounds of a house's neighbours lead."""
    return {("next", row, later): (row, later, 1) for row, later in neighbours_in(house)}


def drift_leads(run, drift):
    """Where the bounds of each two rows of a run lead."""
    table = {}
    for place, (row, reading) in enumerate(run):
        for later, later_reading in run[place + 1:]:
            gap = later_reading - reading
            table[("slow", row, later)] = (row, later, gap - drift)
            table[("fast", row, later)] = (later, row, -gap - drift)
    return table


def letter_leads(number, letter):
    """Where the bounds of a letter lead."""
    sent, taken, least, most = letter
    table = {("least", number): (sent, taken, least)}
    if most is not None:
        table[("most", number)] = (taken, sent, -most)
    return table


def lead_table(ledger):
    """Each bound of the ledger with where it leads: (from, to, more)."""
    houses, letters = ledger
    table = {}
    for house in houses:
        table.update(clock_leads(house))
        table.update(next_leads(house))
        for run in house[4]:
            table.update(drift_leads(run, house[3]))
    for number, letter in enumerate(letters):
        table.update(letter_leads(number, letter))
    return table


def along_table(ledger, order):
    """Each bound of the ledger, and each step ("along", I) of the order, with where it leads."""
    table = lead_table(ledger)
    for place, (row, later) in enumerate(zip(order, order[1:])):
        table[("along", place)] = (row, later, 0)
    return table


def has_bound_form(thing):
    """Whether the thing is a tuple of texts and whole numbers alone."""
    # Only such a thing is looked up: a list can be no key, and True would be taken for the letter number 1.
    if not isinstance(thing, tuple):
        return False
    return all([isinstance(part, str) or is_whole(part) for part in thing])


def bounds_of(ledger):
    """All bounds of the ledger, rising."""
    return tuple(sorted(lead_table(ledger)))


def leads(ledger, bound):
    """Where the bound leads: (from, to, more)."""
    table = lead_table(ledger)
    if not has_bound_form(bound) or bound not in table:
        raise NoBound("no bound of the ledger")
    return table[bound]
