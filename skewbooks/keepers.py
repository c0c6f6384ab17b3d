"""Rows kept as they come: a keeper is told rows and letters one by one, in any order, and puts a ledger down."""

from skewbooks.errors import NoHouse, NoLetter, NoPlacing, NoReading, NoRow, NoRun, TooMany
from skewbooks.ledgers import MOST_HOUSES, MOST_LETTERS, MOST_ROWS, are_unlike, has_parts, is_clock, is_letter
from skewbooks.pairs import all_words
from skewbooks.words import is_name, is_whole

MOST_RUN = 9


def is_empty_house(thing):
    """Whether the thing is a house without its runs."""
    if not has_parts(thing, 4):
        return False
    name, low, high, drift = thing
    return is_clock(name, low, high, drift)


def are_empty_houses(thing):
    """Whether the thing is the houses, without their runs, that a keeper is made of."""
    if not isinstance(thing, tuple) or not 1 <= len(thing) <= MOST_HOUSES:
        return False
    if not all([is_empty_house(house) for house in thing]):
        return False
    return are_unlike([house[0] for house in thing])


def runs_of(house, rows):
    """The runs of a house by their numbers, those without rows left out, the rows of each by their readings."""
    runs = {}
    for name, (owner, run, reading) in rows.items():
        if owner == house:
            runs.setdefault(run, []).append((reading, name))
    return tuple([tuple([(name, reading) for reading, name in sorted(runs[run])]) for run in sorted(runs)])


def put_down(houses, rows, letters):
    """The ledger of all these rows and of those letters both of whose rows are there."""
    full = tuple([house + (runs_of(house[0], rows),) for house in houses])
    sent_and_taken = [pair for pair in sorted(letters) if pair[0] in rows and pair[1] in rows]
    return (full, tuple([pair + letters[pair] for pair in sent_and_taken]))


def is_within_a_house(rows, sent, taken):
    """Whether both rows are there and of one house."""
    return sent in rows and taken in rows and rows[sent][0] == rows[taken][0]


def changed_pairs(ledger, later):
    """The pairs of the ledger's rows that can be something else in the later one."""
    try:
        words = all_words(ledger)
    except NoPlacing:
        return ()
    try:
        later_words = all_words(later)
    except NoPlacing:
        return None
    return tuple([pair for pair in sorted(words) if words[pair] != later_words[pair]])


class Keeper:
    """Keeps rows and letters: rows as name: (house, run, reading), letters as (sent, taken): (least, most)."""

    def __init__(self, houses):
        if not are_empty_houses(houses):
            raise NoHouse("no houses of a keeper")
        self.houses = houses
        self.kept = {}
        self.letters = {}
        self.ends = {}

    def need_run(self, house, run):
        """Refuse what is no house of the keeper, then what is no run's number."""
        if not isinstance(house, str) or house not in [known[0] for known in self.houses]:
            raise NoHouse("no house of this keeper")
        if not is_whole(run) or not 0 <= run <= MOST_RUN:
            raise NoRun("no run's number")

    def need_free(self, house, run, name, reading):
        """Refuse a name and a reading that are none, or that a row has."""
        if not is_name(name) or name in self.kept:
            raise NoRow(name)
        if not is_whole(reading) or (house, run, reading) in list(self.kept.values()):
            raise NoReading("no reading that this run can have")

    def tell(self, house, run, name, reading):
        """Keep the row: "kept"; or, where its house was done ahead of it, ("late", pairs)."""
        self.need_run(house, run)
        self.need_free(house, run, name, reading)
        if len(self.kept) >= MOST_ROWS:
            raise TooMany("more rows than are kept")
        rows = dict(self.kept)
        rows[name] = (house, run, reading)
        if any([is_within_a_house(rows, sent, taken) for sent, taken in self.letters]):
            raise NoRow(name)
        if house in self.ends and (run, reading) <= self.ends[house]:
            return ("late", changed_pairs(self.ledger(), put_down(self.houses, rows, self.letters)))
        self.kept = rows
        return "kept"

    def letter(self, sent, taken, least, most):
        """Keep the letter, whether its rows are kept already or not yet."""
        if not is_letter((sent, taken, least, most)) or sent == taken:
            raise NoLetter("no letter")
        if (sent, taken) in self.letters or is_within_a_house(self.kept, sent, taken):
            raise NoLetter("told ahead, or within a house")
        if len(self.letters) >= MOST_LETTERS:
            raise NoLetter("more letters than are kept")
        self.letters[(sent, taken)] = (least, most)

    def done(self, house, run, reading):
        """The house is done up to this reading of the run."""
        self.need_run(house, run)
        if not is_whole(reading):
            raise NoReading("no reading")
        self.ends[house] = max((run, reading), self.ends.get(house, (run, reading)))

    def ledger(self):
        """The ledger of all that is kept."""
        return put_down(self.houses, self.kept, self.letters)
