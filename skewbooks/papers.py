"""Papers: for each question the claim that is true, with the paper by which the checker takes it."""

from skewbooks.bounds import along_table, lead_table
from skewbooks.errors import NoOrder, NoPlacing
from skewbooks.ledgers import is_order
from skewbooks.mends import mend
from skewbooks.moments import chain_from, chain_to, earliest, latest, moments
from skewbooks.pairs import apart, placing_apart, shown
from skewbooks.settling import greatest_chain, placed, placing_by


def paper_placed(ledger):
    """That there is a placing, or that the ledger quarrels."""
    word, paper = placed(ledger)
    if word == "placing":
        return (("placed", ledger), paper)
    return (("quarrel", ledger), paper)


def paper_moments(ledger, row):
    """A row's least and greatest moment."""
    least, greatest = moments(ledger, row)
    paper = (earliest(ledger), chain_to(ledger, row), latest(ledger), chain_from(ledger, row))
    return (("moments", ledger, row, least, greatest), paper)


def paper_apart(ledger, row, other):
    """By how much the moment of the other row can be more than that of the one."""
    low, high = apart(ledger, row, other)
    table = lead_table(ledger)
    paper = (
        placing_apart(ledger, row, other, low), greatest_chain(table, row, other),
        placing_apart(ledger, row, other, high), greatest_chain(table, other, row),
    )
    return (("apart", ledger, row, other, low, high), paper)


def chain_against(ledger, row, other, word):
    """A chain that bars a word that the row can't be against the other."""
    low, high = apart(ledger, row, other)
    # What bars at once leads to the row that is surely behind; where ahead is barred, low is 0 or less.
    if word == "behind" or low > 0:
        return greatest_chain(lead_table(ledger), row, other)
    return greatest_chain(lead_table(ledger), other, row)


def paper_word(ledger, row, other, word):
    """Whether the row can be against the other as the word says."""
    placing = shown(ledger, row, other, word)
    if placing is None:
        return (("can't", ledger, row, other, word), chain_against(ledger, row, other, word))
    return (("can", ledger, row, other, word), placing)


def paper_order(ledger, order):
    """Whether the order can be."""
    earliest(ledger)
    if not is_order(ledger, order):
        raise NoOrder("no order of the ledger's rows")
    try:
        return (("order", ledger, order), placing_by(along_table(ledger, order)))
    except NoPlacing as quarrel:
        return (("no order", ledger, order), quarrel.ring)


def paper_mend(ledger, house):
    """By how much more the house's clock must be off, or that it mends nothing."""
    told = mend(ledger, house)
    if told[0] == "never":
        return (("never", ledger, house), told[1])
    return (("mended", ledger, house, told[1]), told[2:])
