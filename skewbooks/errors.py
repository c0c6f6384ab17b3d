"""The refusals, each with a class of its own."""


class SkewError(ValueError):
    """Any refusal."""


class NoBound(SkewError):
    """What is no bound of the ledger."""


class NoPlacing(SkewError):
    """A ledger that quarrels; ring is a ring of bounds that shows it."""

    def __init__(self, ring):
        self.ring = ring


class NoRow(SkewError):
    """What names no row, or no row that can be kept; name is what was handed in."""

    def __init__(self, name):
        self.name = name


class NoWord(SkewError):
    """A word that says nothing of two rows, or twice the same row."""


class TooMany(SkewError):
    """More rows or orders than are gone through or kept."""


class NoNumber(SkewError):
    """What is the number of no order."""


class NoOrder(SkewError):
    """What is no order, or none that can be."""


class NoHouse(SkewError):
    """What is no house, or names none."""


class NoRun(SkewError):
    """What is no run's number."""


class NoReading(SkewError):
    """What is no reading, or one that the run has already."""


class NoLetter(SkewError):
    """What is no letter, or none that can be told."""


class NoMerge(SkewError):
    """Two ledgers that can't be merged."""


class NoText(SkewError):
    """What is no ledger's text; part is the number of the first wrong row, or None."""

    def __init__(self, part):
        self.part = part


class NoCall(SkewError):
    """What the desk can't be told; row is what was handed in."""

    def __init__(self, row):
        self.row = row


class NoKept(SkewError):
    """A name by which no ledger is kept."""

    def __init__(self, name):
        self.name = name
