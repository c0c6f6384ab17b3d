"""Letters alone: which rows are ahead of which by the order in their houses and by letters, whatever clocks read."""

from skewbooks.bounds import lead_table
from skewbooks.ledgers import need_row, rows_of
from skewbooks.settling import pushed

WORDS_ALONE = ("next", "least")


def letter_table(ledger):
    """Where the bounds lead that hang on no clock; each leads to the next row of a chain: 1 more."""
    return {
        bound: (start, end, 1)
        for bound, (start, end, more) in lead_table(ledger).items() if bound[0] in WORDS_ALONE
    }


def rows_behind(table, row):
    """The rows to which a chain of one or more bounds of the table leads from the row."""
    behind = []
    waiting = [row]
    while waiting:
        place = waiting.pop()
        fresh = [end for start, end, more in table.values() if start == place and end not in behind]
        behind.extend(fresh)
        waiting.extend(fresh)
    return behind


def by_letters(ledger, row, other):
    """Whether the row is ahead of the other by letters."""
    need_row(ledger, row)
    need_row(ledger, other)
    return other in rows_behind(letter_table(ledger), row)


def counts(ledger):
    """Each row with how many rows the longest chain goes through that ends in it, rising."""
    names = rows_of(ledger)
    sums, last = pushed(letter_table(ledger), {row: 1 for row in names})
    return tuple([(row, sums[row]) for row in names])
