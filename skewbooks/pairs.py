"""Two rows: by how much one can be later than the other, and which can have come ahead."""

from skewbooks.bounds import lead_table
from skewbooks.errors import NoWord
from skewbooks.ledgers import need_row, rows_of
from skewbooks.moments import earliest
from skewbooks.settling import placing_by, pushed

WORDS = ("ahead", "at once", "behind")


def lows_from(ledger, row):
    """The least number by which the moment of each can be more than that of the row."""
    sums, last = pushed(lead_table(ledger), {row: 0})
    return sums


def all_lows(ledger):
    """Of each (row, other) the least number by which the moment of the other can be more than that of the row."""
    names = rows_of(ledger)
    lows = {}
    for row in names:
        sums = lows_from(ledger, row)
        lows.update({(row, other): sums[other] for other in names})
    return lows


def apart(ledger, row, other):
    """The least and greatest number by which the moment of the other can be more than that of the row."""
    earliest(ledger)
    need_row(ledger, row)
    need_row(ledger, other)
    return (lows_from(ledger, row)[other], -lows_from(ledger, other)[row])


def gaps_by_word(low, high):
    """By each word that a row can be against another one, from low to high later, a gap with which it is so."""
    gaps = {}
    if high > 0:
        gaps["ahead"] = high
    if low <= 0 <= high:
        gaps["at once"] = 0
    if low < 0:
        gaps["behind"] = low
    return gaps


def all_words(ledger):
    """Of each two rows (A, B), A below B, the words that A can be against B."""
    lows = all_lows(ledger)
    return {
        (row, other): tuple(gaps_by_word(low, -lows[(other, row)]))
        for (row, other), low in lows.items() if row < other
    }


def gaps_between(ledger, row, other):
    """By each word that the row can be against the other a gap of their moments with which it is so."""
    low, high = apart(ledger, row, other)
    if row == other:
        raise NoWord("twice the same row")
    return gaps_by_word(low, high)


def can_be(ledger, row, other):
    """The rising tuple of the words that the row can be against the other."""
    return tuple(gaps_between(ledger, row, other))


def placing_apart(ledger, row, other, gap):
    """A placing in which the moment of the other is just the gap more than that of the row."""
    table = lead_table(ledger)
    table[("gap", row, other)] = (row, other, gap)
    table[("gap", other, row)] = (other, row, -gap)
    return placing_by(table)


def shown(ledger, row, other, word):
    """A placing in which the row is against the other as the word says, or None."""
    gaps = gaps_between(ledger, row, other)
    if not isinstance(word, str) or word not in WORDS:
        raise NoWord("a word that says nothing of two rows")
    if word not in gaps:
        return None
    return placing_apart(ledger, row, other, gaps[word])
