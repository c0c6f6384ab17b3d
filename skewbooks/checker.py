"""The checker: it takes a claim with its paper or not, and trusts nobody.

It looks at things of any kind, and finds nothing out by itself: placings are held against the ledger, chains and rings
are summed up, and no more is believed than what they show.
"""

from skewbooks.bounds import along_table
from skewbooks.chains import chain_in, chain_of
from skewbooks.ledgers import has_house, has_parts, is_ledger, is_order, is_placing, is_row, off_by_more, row_names
from skewbooks.words import is_whole

# By each word of two rows the least sum of a chain that bars it.
BARRING_SUMS = {"ahead": 0, "at once": 1, "behind": 0}


def is_barring(told):
    """Whether what is told of a chain is that of a ring with a sum of 1 or more."""
    return told is not None and told[0] == told[1] and told[2] >= 1


def bars_all(ledger, paper):
    """Whether the paper is a ring of the ledger that bars all placings."""
    return is_barring(chain_of(ledger, paper))


def is_chain_by(ledger, paper, start, end, total):
    """Whether the paper is a chain from start to end with this sum."""
    if has_parts(paper, 0):
        return start == end and total == 0
    return chain_of(ledger, paper) == (start, end, total)


def gap_in(placing, start, end):
    """By how much the moment of the end is more than that of the start in the placing; None has the moment 0."""
    moments = dict(placing)
    moments[None] = 0
    return moments[end] - moments[start]


def shows_gap(ledger, paper, start, end, gap):
    """Whether the paper is a placing with this gap."""
    return is_placing(ledger, paper) and gap_in(paper, start, end) == gap


def shows_span(ledger, start, end, span, paper):
    """Whether the paper shows that the gap from start to end is at least and at most what the span says."""
    if not all([is_whole(number) for number in span]) or not has_parts(paper, 4):
        return False
    low, high = span
    first, onward, last, back = paper
    if not shows_gap(ledger, first, start, end, low) or not is_chain_by(ledger, onward, start, end, low):
        return False
    return shows_gap(ledger, last, start, end, high) and is_chain_by(ledger, back, end, start, -high)


def are_two_rows(ledger, row, other):
    """Whether these are unlike rows of the ledger."""
    return is_row(ledger, row) and is_row(ledger, other) and row != other


def is_word(thing):
    """Whether the thing is a word of two rows."""
    return isinstance(thing, str) and thing in BARRING_SUMS


def word_of(gap):
    """What a row is against another one whose moment is the gap more."""
    if gap == 0:
        return "at once"
    return "ahead" if gap > 0 else "behind"


def barring_ways(row, other, word):
    """From where to where the chains lead that bar the word."""
    if word == "ahead":
        return [(other, row)]
    if word == "behind":
        return [(row, other)]
    return [(row, other), (other, row)]


def takes_placed(ledger, asked, paper):
    """Whether the paper is a placing."""
    return is_placing(ledger, paper)


def takes_quarrel(ledger, asked, paper):
    """Whether the paper shows that there is no placing."""
    return bars_all(ledger, paper)


def takes_moments(ledger, asked, paper):
    """Whether the paper shows a row's least and greatest moment."""
    return is_row(ledger, asked[0]) and shows_span(ledger, None, asked[0], asked[1:], paper)


def takes_apart(ledger, asked, paper):
    """Whether the paper shows by how much the other row can be later."""
    row, other = asked[:2]
    return is_row(ledger, row) and is_row(ledger, other) and shows_span(ledger, row, other, asked[2:], paper)


def takes_can(ledger, asked, paper):
    """Whether the paper shows that the row can be so against the other."""
    row, other, word = asked
    if not are_two_rows(ledger, row, other) or not is_word(word):
        return False
    return is_placing(ledger, paper) and word_of(gap_in(paper, row, other)) == word


def takes_cannot(ledger, asked, paper):
    """Whether the paper shows that the row is so against the other in no placing."""
    row, other, word = asked
    if not are_two_rows(ledger, row, other) or not is_word(word):
        return False
    told = chain_of(ledger, paper)
    if told is None:
        return False
    if is_barring(told):
        return True
    return told[:2] in barring_ways(row, other, word) and told[2] >= BARRING_SUMS[word]


def takes_order(ledger, asked, paper):
    """Whether the paper shows that the order can be."""
    order = asked[0]
    if not is_order(ledger, order) or not is_placing(ledger, paper):
        return False
    return all([gap_in(paper, row, later) >= 0 for row, later in zip(order, order[1:])])


def takes_no_order(ledger, asked, paper):
    """Whether the paper shows that the order can't be."""
    order = asked[0]
    return is_order(ledger, order) and is_barring(chain_in(along_table(ledger, order), paper))


def takes_mended(ledger, asked, paper):
    """Whether the paper shows that the clock of the house must be off by k more, and that this is enough."""
    house, more = asked
    if not has_house(ledger, house) or not is_whole(more) or more < 0 or not has_parts(paper, 2):
        return False
    placing, ring = paper
    if not is_placing(off_by_more(ledger, house, more), placing):
        return False
    if more == 0:
        return ring is None
    return bars_all(off_by_more(ledger, house, more - 1), ring)


def takes_never(ledger, asked, paper):
    """Whether the paper shows a quarrel that doesn't hang on the clock of the house."""
    if not has_house(ledger, asked[0]) or not bars_all(ledger, paper):
        return False
    rows = row_names([house for house in ledger[0] if house[0] == asked[0]])
    return not any([bound[0] in ("early", "late") and bound[1] in rows for bound in paper])


# By each claim's word how many parts it has behind the ledger, and what takes it.
MANY_ASKED = {
    "placed": 0, "quarrel": 0, "moments": 3, "apart": 4, "can": 3, "can't": 3, "order": 1, "no order": 1, "mended": 2,
    "never": 1,
}
TAKERS = {
    "placed": takes_placed, "quarrel": takes_quarrel, "moments": takes_moments, "apart": takes_apart,
    "can": takes_can, "can't": takes_cannot, "order": takes_order, "no order": takes_no_order,
    "mended": takes_mended, "never": takes_never,
}


def holds(claim, paper):
    """Whether the claim is one, and the paper shows that it is so."""
    if not isinstance(claim, tuple) or len(claim) < 2:
        return False
    word, ledger = claim[:2]
    if not isinstance(word, str) or word not in TAKERS:
        return False
    if len(claim) != 2 + MANY_ASKED[word] or not is_ledger(ledger):
        return False
    takes = TAKERS[word]
    return takes(ledger, claim[2:], paper)
