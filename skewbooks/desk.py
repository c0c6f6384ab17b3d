"""The desk: it keeps ledgers by names, is told rows of words, and answers each with a text."""

from skewbooks.checker import holds
from skewbooks.errors import NoCall, NoKept
from skewbooks.ledgertexts import read_ledger, show_ledger
from skewbooks.mends import least_mend
from skewbooks.merges import merged
from skewbooks.orders import orders, plain_order
from skewbooks.pairs import can_be
from skewbooks.papers import paper_apart, paper_moments, paper_placed
from skewbooks.words import is_name

# By its first word how many words a row has; behind book and a name all that follows counts as one.
MANY_WORDS = {
    "book": 3, "show": 2, "place": 2, "moments": 3, "apart": 4, "can": 4, "order": 2, "orders": 2, "mend": 2,
    "merge": 4, "paper": 1,
}


def words_of(row):
    """The words of a row, the text that is to be booked as one."""
    words = row.split(" ")
    if words[0] == "book" and len(words) > 2:
        return words[:2] + [" ".join(words[2:])]
    return words


def is_call(words):
    """Whether these are the words of a row that the desk can be told."""
    if words[0] not in MANY_WORDS or len(words) != MANY_WORDS[words[0]]:
        return False
    names = words[1:2] if words[0] == "book" else words[1:]
    return all([is_name(name) for name in names])


def call_of(row):
    """The words of a row that the desk can be told."""
    if not isinstance(row, str):
        raise NoCall(row)
    words = words_of(row)
    if not is_call(words):
        raise NoCall(row)
    return words


def line_of(words):
    """The words with blanks between, - for none."""
    return "-" if len(words) == 0 else " ".join(words)


def answer_show(ledger, rows):
    """The ledger's text in one row."""
    return show_ledger(ledger).replace("\n", "; ")


def answer_can(ledger, rows):
    """The words that the one row can be against the other."""
    row, other = rows
    return ", ".join(can_be(ledger, row, other))


def answer_order(ledger, rows):
    """The order by least moments."""
    return line_of(plain_order(ledger))


def answer_orders(ledger, rows):
    """How many orders can be."""
    return str(len(orders(ledger)))


def answer_mend(ledger, rows):
    """The house that needs the least k, and k."""
    told = least_mend(ledger)
    if told is None:
        return "none"
    house, more = told
    return f"{house} {more}"


ANSWERS = {
    "show": answer_show, "can": answer_can, "order": answer_order, "orders": answer_orders, "mend": answer_mend,
}


def place_shown(ledger, rows):
    """Each row's moment in some placing, and what shows it."""
    claim, paper = paper_placed(ledger)
    if claim[0] == "quarrel":
        return ("quarrel", (claim, paper))
    return (line_of([f"{row}={moment}" for row, moment in paper]), (claim, paper))


def moments_shown(ledger, rows):
    """The row's least and greatest moment, and what shows them."""
    claim, paper = paper_moments(ledger, rows[0])
    return (f"{claim[3]} {claim[4]}", (claim, paper))


def apart_shown(ledger, rows):
    """By how much the other row can be later, and what shows it."""
    row, other = rows
    claim, paper = paper_apart(ledger, row, other)
    return (f"{claim[4]} {claim[5]}", (claim, paper))


SHOWN_ANSWERS = {"place": place_shown, "moments": moments_shown, "apart": apart_shown}


class Desk:
    """Keeps ledgers by names, and claim and paper of the last answer that has such."""

    def __init__(self):
        self.books = {}
        self.last = None

    def book_of(self, name):
        """The ledger that is kept by the name."""
        if name not in self.books:
            raise NoKept(name)
        return self.books[name]

    def keep(self, name, ledger):
        """Keep the ledger by the name, in the place of what was kept by it."""
        self.books[name] = ledger
        return "ok"

    def checked(self):
        """Whether the checker takes what shows the last answer."""
        if self.last is None:
            return "none"
        claim, paper = self.last
        return "holds" if holds(claim, paper) else "no"

    def asked(self, word, ledger, rows):
        """The answer to a question of the ledger."""
        if word in ANSWERS:
            answer = ANSWERS[word]
            return answer(ledger, rows)
        show = SHOWN_ANSWERS[word]
        text, shown_by = show(ledger, rows)
        self.last = shown_by
        return text

    def say(self, row):
        """The answer to a row."""
        words = call_of(row)
        if words[0] == "paper":
            return self.checked()
        if words[0] == "book":
            return self.keep(words[1], read_ledger(words[2].replace("; ", "\n")))
        if words[0] == "merge":
            one = self.book_of(words[2])
            return self.keep(words[1], merged(one, self.book_of(words[3])))
        return self.asked(words[0], self.book_of(words[1]), words[2:])
