"""Ledgers merged: two ledgers put together, what both have once."""

from skewbooks.errors import NoMerge
from skewbooks.ledgers import house_names, is_ledger


def merged_run(one, other):
    """The rows of both runs by their readings, the same row once."""
    return tuple([(name, reading) for reading, name in sorted({(reading, name) for name, reading in one + other})])


def merged_runs(one, other):
    """The runs of both, those of the same number put together."""
    shared = [merged_run(run, twin) for run, twin in zip(one, other)]
    # Of the two at most one has runs beyond those that both have.
    return tuple(shared) + one[len(shared):] + other[len(shared):]


def merged_house(one, other):
    """The house that both ledgers have, with the rows of both."""
    if one[:4] != other[:4]:
        raise NoMerge("a house with another clock")
    return one[:4] + (merged_runs(one[4], other[4]),)


def merged_houses(one, other):
    """The houses of the first ledger, then those that the second alone has."""
    twins = {house[0]: house for house in other[0]}
    first = [merged_house(house, twins.get(house[0], house)) for house in one[0]]
    return tuple(first + [house for house in other[0] if house[0] not in house_names(one)])


def merged_letters(one, other):
    """The letters of both ledgers, the same letter once."""
    letters = {}
    for letter in one[1] + other[1]:
        if letters.setdefault(letter[:2], letter) != letter:
            raise NoMerge("two letters of the same rows that aren't alike")
    return tuple([letters[pair] for pair in sorted(letters)])


def merged(one, other):
    """The ledger that has all of both."""
    ledger = (merged_houses(one, other), merged_letters(one, other))
    if not is_ledger(ledger):
        raise NoMerge("no ledger comes of both")
    return ledger
