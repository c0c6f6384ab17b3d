"""Texts of ledgers: a ledger written in rows, and read back."""

from skewbooks.errors import NoText
from skewbooks.ledgers import is_ledger


def show_run(run):
    """The rows of a run, a blank ahead of each."""
    return "".join([f" {name}@{reading}" for name, reading in run])


def show_house(house):
    """The row of text of a house."""
    name, low, high, drift, runs = house
    return f"house {name} {low} {high} {drift}:" + " /".join([show_run(run) for run in runs])


def show_letter(letter):
    """The row of text of a letter."""
    sent, taken, least, most = letter
    last = "-" if most is None else str(most)
    return f"letter {sent} {taken} {least} {last}"


def show_ledger(ledger):
    """The text of the ledger."""
    houses, letters = ledger
    return "\n".join([show_house(house) for house in houses] + [show_letter(letter) for letter in letters])


def read_number(word):
    """The whole number that is written so; any other word stays a text, which no ledger has in a number's place."""
    try:
        number = int(word)
    except ValueError:
        return word
    # Python also reads "+1", "01", "1_0" and "-0", which aren't written so.
    return number if str(number) == word else word


def read_row(word):
    """The row (name, reading) of a house that is written so."""
    name, sign, reading = word.partition("@")
    return (name, read_number(reading))


def read_run(part):
    """The run whose rows are written so, a blank ahead of each, else None."""
    words = part.split(" ")
    if words[0] != "":
        return None
    return tuple([read_row(word) for word in words[1:]])


def read_house(row):
    """What a row of text that begins with house says of it, else None."""
    head, colon, rest = row.partition(":")
    words = head.split(" ")
    if colon == "" or len(words) != 5:
        return None
    runs = [] if rest == "" else [read_run(part) for part in rest.split(" /")]
    return (words[1], read_number(words[2]), read_number(words[3]), read_number(words[4]), tuple(runs))


def read_letter(row):
    """What a row of text says of a letter, else None."""
    words = row.split(" ")
    if len(words) != 5 or words[0] != "letter":
        return None
    most = None if words[4] == "-" else read_number(words[4])
    return (words[1], words[2], read_number(words[3]), most)


def with_row(ledger, row):
    """The ledger with what one row of text more says; it is no ledger where the row isn't so."""
    houses, letters = ledger
    # Behind the first letter no house is read any more.
    if row.startswith("house ") and len(letters) == 0:
        return (houses + (read_house(row),), letters)
    return (houses, letters + (read_letter(row),))


def read_ledger(text):
    """The ledger that is written so."""
    if not isinstance(text, str):
        raise NoText(None)
    ledger = ((), ())
    for number, row in enumerate(text.split("\n")):
        ledger = with_row(ledger, row)
        if not is_ledger(ledger):
            raise NoText(number)
    return ledger
