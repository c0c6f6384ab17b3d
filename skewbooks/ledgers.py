"""Ledgers and their placings, told apart from things of any kind.

Each thing's kind is asked ahead of its parts, and no part is compared or made
a key before its own kind is sure: so things of any kind can be handed in.
"""

from skewbooks.errors import NoRow
from skewbooks.words import is_name, is_whole

MOST_HOUSES = 6
MOST_ROWS = 24
MOST_LETTERS = 24


def has_parts(thing, many):
    """Whether the thing is a tuple of so many parts."""
    return isinstance(thing, tuple) and len(thing) == many


def is_rising(values):
    """Whether each of the values is above the one ahead of it."""
    return all([value < later for value, later in zip(values, values[1:])])


def is_named_number(thing):
    """Whether the thing is a tuple of a name and a whole number: a row's form, and a moment's."""
    return has_parts(thing, 2) and is_name(thing[0]) and is_whole(thing[1])


def is_clock(name, low, high, drift):
    """Whether these are a house's name and what is told of its clock."""
    if not is_name(name) or not all([is_whole(number) for number in (low, high, drift)]):
        return False
    return low <= high and drift >= 0


def is_run(thing):
    """Whether the thing is a run: one or more rows, their readings rising."""
    if not isinstance(thing, tuple) or len(thing) == 0:
        return False
    if not all([is_named_number(row) for row in thing]):
        return False
    return is_rising([reading for name, reading in thing])


def is_house(thing):
    """Whether the thing is a house by itself, whatever the other houses are."""
    if not has_parts(thing, 5):
        return False
    name, low, high, drift, runs = thing
    if not is_clock(name, low, high, drift) or not isinstance(runs, tuple):
        return False
    return all([is_run(run) for run in runs])


def rows_in(house):
    """All rows (name, reading) of a house, in the order in which they were written."""
    return [row for run in house[4] for row in run]


def neighbours_in(house):
    """The names of each two rows of a house of which one is right behind the other."""
    names = [name for name, reading in rows_in(house)]
    return list(zip(names, names[1:]))


def row_names(houses):
    """The names of all rows of the houses, house by house."""
    return [name for house in houses for name, reading in rows_in(house)]


def are_unlike(names):
    """Whether no name is there twice."""
    return len(set(names)) == len(names)


def are_houses(thing):
    """Whether the thing is the houses of a ledger."""
    if not isinstance(thing, tuple) or not 1 <= len(thing) <= MOST_HOUSES:
        return False
    if not all([is_house(house) for house in thing]):
        return False
    names = row_names(thing)
    return are_unlike([house[0] for house in thing]) and are_unlike(names) and len(names) <= MOST_ROWS


def is_letter(thing):
    """Whether the thing is a letter by itself, whatever rows and other letters there are."""
    if not has_parts(thing, 4):
        return False
    sent, taken, least, most = thing
    if not is_name(sent) or not is_name(taken):
        return False
    if not is_whole(least) or least < 1:
        return False
    return most is None or (is_whole(most) and most >= least)


def are_letters(thing, houses):
    """Whether the thing is the letters of a ledger with these houses."""
    if not isinstance(thing, tuple) or len(thing) > MOST_LETTERS:
        return False
    if not all([is_letter(letter) for letter in thing]):
        return False
    owners = {row: house[0] for house in houses for row, reading in rows_in(house)}
    for sent, taken, least, most in thing:
        if sent not in owners or taken not in owners or owners[sent] == owners[taken]:
            return False
    return is_rising([letter[:2] for letter in thing])


def is_ledger(thing):
    """Whether the thing is a ledger (houses, letters)."""
    return has_parts(thing, 2) and are_houses(thing[0]) and are_letters(thing[1], thing[0])


def rows_of(ledger):
    """The names of all rows of the ledger, rising."""
    return tuple(sorted(row_names(ledger[0])))


def is_row(ledger, thing):
    """Whether the thing names a row of the ledger."""
    return is_name(thing) and thing in row_names(ledger[0])


def need_row(ledger, thing):
    """Refuse what names no row of the ledger."""
    if not is_row(ledger, thing):
        raise NoRow(thing)


def is_order(ledger, thing):
    """Whether the thing is a tuple of the names of all rows of the ledger, each once."""
    if not isinstance(thing, tuple) or not all([is_name(row) for row in thing]):
        return False
    return tuple(sorted(thing)) == rows_of(ledger)


def house_names(ledger):
    """The names of all houses of the ledger, as they stand in it."""
    return [house[0] for house in ledger[0]]


def has_house(ledger, thing):
    """Whether the thing names a house of the ledger."""
    return is_name(thing) and thing in house_names(ledger)


def widened(house, more):
    """The house with its clock off by so much more either way."""
    return house[:1] + (house[1] - more, house[2] + more) + house[3:]


def off_by_more(ledger, name, more):
    """The ledger with the clock of the house of this name off by so much more."""
    houses, letters = ledger
    return (tuple([widened(house, more) if house[0] == name else house for house in houses]), letters)


def names_each_row(ledger, thing):
    """Whether the thing tells a whole number for each row of the ledger, the rows rising."""
    if not isinstance(thing, tuple) or not all([is_named_number(part) for part in thing]):
        return False
    return tuple([name for name, moment in thing]) == rows_of(ledger)


def keeps_drift(run, drift, moments):
    """Whether each two rows of the run keep to the drift."""
    # Moments and readings of two rows differ by as much as the clock was off more by the one than by the other,
    # so the two rows by which it was off most and least speak for all.
    offs = [reading - moments[row] for row, reading in run]
    return max(offs) - min(offs) <= drift


def keeps_house(house, moments):
    """Whether the moments keep to all that the house tells of its rows."""
    name, low, high, drift, runs = house
    if not all([low <= reading - moments[row] <= high for row, reading in rows_in(house)]):
        return False
    if not all([moments[later] - moments[row] >= 1 for row, later in neighbours_in(house)]):
        return False
    return all([keeps_drift(run, drift, moments) for run in runs])


def keeps_letter(letter, moments):
    """Whether the moments keep to the least and greatest time of the letter."""
    sent, taken, least, most = letter
    gap = moments[taken] - moments[sent]
    return gap >= least and (most is None or gap <= most)


def is_placing(ledger, thing):
    """Whether the thing is a placing of the ledger."""
    if not names_each_row(ledger, thing):
        return False
    houses, letters = ledger
    moments = {row: moment for row, moment in thing}
    if not all([keeps_house(house, moments) for house in houses]):
        return False
    return all([keeps_letter(letter, moments) for letter in letters])
