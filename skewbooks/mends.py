"""Clocks mended: by how much more the clock of a house must be off for a ledger to have a placing."""

from skewbooks.bounds import lead_table
from skewbooks.errors import NoHouse
from skewbooks.ledgers import has_house, house_names, off_by_more
from skewbooks.settling import placed


def more_than_enough(ledger):
    """A k with which no ring that hangs on the mended clock quarrels."""
    # A bare ring has each bound at most once, so its sum is no more than this, and each of its bounds that hangs on
    # the clock takes k away.
    return sum([max(more, 0) for start, end, more in lead_table(ledger).values()])


def least_more(ledger, house, enough):
    """The least k with which there is a placing, where there is one with enough and none with 0."""
    low, high = 1, enough
    while low < high:
        # With a greater k each bound asks for as much or less: so where there is a placing there is one beyond.
        middle = (low + high) // 2
        if placed(off_by_more(ledger, house, middle))[0] == "placing":
            high = middle
        else:
            low = middle + 1
    return low


def mend(ledger, house):
    """("mended", k, placing, ring) with the least k that mends the ledger, or ("never", ring)."""
    if not has_house(ledger, house):
        raise NoHouse("no house of the ledger")
    word, shown = placed(ledger)
    if word == "placing":
        return ("mended", 0, shown, None)
    enough = more_than_enough(ledger)
    word, shown = placed(off_by_more(ledger, house, enough))
    if word == "quarrel":
        return ("never", shown)
    more = least_more(ledger, house, enough)
    placing = placed(off_by_more(ledger, house, more))[1]
    return ("mended", more, placing, placed(off_by_more(ledger, house, more - 1))[1])


def least_mend(ledger):
    """(name, k) of the house that needs the least k, of several the least name, or None."""
    known = [(mend(ledger, house), house) for house in house_names(ledger)]
    needs = [(told[1], house) for told, house in known if told[0] == "mended"]
    if not needs:
        return None
    more, house = min(needs)
    return (house, more)
