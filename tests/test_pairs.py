import itertools
import random
import unittest

from skewbooks.errors import NoWord
from skewbooks.ledgers import is_placing, rows_of
from skewbooks.moments import moments
from skewbooks.pairs import apart, can_be, shown
from tests.helper import (
    all_placings, big, full_ledger, full_quarrel, no_rows, odd_things, one_house, quarrels, refuses_quarrel, refuses_row,
    same_behind, small_ledger, two_rows,
)

WORDS = ("ahead", "at once", "behind")


def word_in(placing, row, other):
    """What the row is against the other in the placing."""
    gap = dict(placing)[other] - dict(placing)[row]
    return "ahead" if gap > 0 else "behind" if gap < 0 else "at once"


def apart_with_word(ledger, row, other):
    """Asked as the others are: of a ledger and two rows."""
    return shown(ledger, row, other, "ahead")


OF_TWO_ROWS = (apart, can_be, apart_with_word)


class TestApart(unittest.TestCase):
    def test_by_hand(self):
        ledger = two_rows(2, 6)
        self.assertEqual(apart(ledger, "a", "b"), (2, 6))
        self.assertEqual(apart(ledger, "b", "a"), (-6, -2))
        self.assertEqual(apart(two_rows(2, None), "a", "b"), (2, 2 * 10 ** 6))
        ledger = one_house(-2, 3, 1, (("x", 5), ("y", 9)), (("z", 2),))
        self.assertEqual(apart(one_house(-2, 3, 1, (("x", 5), ("y", 9))), "x", "y"), (3, 5))
        self.assertEqual(apart(one_house(-2, 3, 1, (("x", 5),), (("z", 2),)), "x", "z"), (1, 2))
        self.assertIsInstance(apart(two_rows(1, 2), "a", "b"), tuple)

    def test_through_clocks(self):
        houses = (("g", -1, 2, 0, ((("a", 5),),)), ("h", 0, 4, 0, ((("b", 7),),)))
        self.assertEqual(apart((houses, ()), "a", "b"), (3 - 6, 7 - 3))

    def test_a_row_and_itself(self):
        for ledger in (big(), two_rows(1, None), full_ledger(random.Random(1))):
            for row in rows_of(ledger):
                self.assertEqual(same_behind(self, apart, ledger, row, row), (0, 0))

    def test_against_all_placings(self):
        chance = random.Random(31)
        many = 0
        for _ in range(250):
            ledger = small_ledger(chance, chance.choice([0.05, 0.3]))
            known = [dict(placing) for placing in all_placings(ledger)]
            if not known:
                continue
            for row, other in itertools.product(rows_of(ledger), repeat=2):
                gaps = [placing[other] - placing[row] for placing in known]
                low, high = same_behind(self, apart, ledger, row, other)
                self.assertEqual((low, high), (min(gaps), max(gaps)), (ledger, row, other))
                self.assertEqual(apart(ledger, other, row), (-high, -low))
                many += row < other
        self.assertGreater(many, 300)

    def test_of_24_rows(self):
        chance = random.Random(32)
        for off in (0, 10 ** 9 - 200):
            ledger = full_ledger(chance, off)
            rows = chance.sample(rows_of(ledger), 6)
            for row, other in itertools.permutations(rows, 2):
                low, high = apart(ledger, row, other)
                self.assertLessEqual(low, high)
                self.assertEqual(apart(ledger, other, row), (-high, -low))
                (least, greatest), (first, last) = moments(ledger, row), moments(ledger, other)
                self.assertGreaterEqual(low, first - greatest)
                self.assertLessEqual(high, last - least)


class TestWords(unittest.TestCase):
    def look_through(self, ledger, row, other):
        """The words are rising, and each has a placing, the others none. Gives the words."""
        words = same_behind(self, can_be, ledger, row, other)
        self.assertIsInstance(words, tuple)
        self.assertEqual(words, tuple(word for word in WORDS if word in words))
        self.assertGreater(len(words), 0)
        for word in WORDS:
            placing = same_behind(self, shown, ledger, row, other, word)
            if word in words:
                self.assertTrue(is_placing(ledger, placing))
                self.assertEqual(word_in(placing, row, other), word)
            else:
                self.assertIsNone(placing)
        return words

    def test_by_hand(self):
        houses = (("g", 0, 1, 0, ((("a", 5),),)), ("h", 0, 1, 0, ((("b", 5),),)))
        self.assertEqual(self.look_through((houses, ()), "a", "b"), WORDS)
        self.assertEqual(self.look_through((houses, (("a", "b", 1, None),)), "a", "b"), ("ahead",))
        self.assertEqual(self.look_through((houses, (("a", "b", 1, None),)), "b", "a"), ("behind",))

    def test_each_edge(self):
        def two(width, reading):
            houses = (("g", 0, 1, 0, ((("a", 5),),)), ("h", 0, width, 0, ((("b", reading),),)))
            return self.look_through((houses, ()), "a", "b")
        # The moment of a is 4 or 5, that of b from reading - width to reading.
        self.assertEqual([two(0, reading) for reading in range(3, 7)], [
            ("behind",), ("at once", "behind"), ("ahead", "at once"), ("ahead",),
        ])
        self.assertEqual([two(2, reading) for reading in range(3, 9)], [
            ("behind",), ("at once", "behind"), WORDS, WORDS, ("ahead", "at once"), ("ahead",),
        ])

    def test_no_at_once_between(self):
        houses = (("g", 0, 0, 0, ((("a", 5),),)), ("h", 0, 0, 0, ((("b", 5),),)))
        self.assertEqual(self.look_through((houses, ()), "a", "b"), ("at once",))

    def test_against_all_placings(self):
        chance = random.Random(33)
        seen = set()
        for _ in range(250):
            ledger = small_ledger(chance, chance.choice([0.05, 0.3]))
            known = all_placings(ledger)
            if not known:
                continue
            for row, other in itertools.permutations(rows_of(ledger), 2):
                words = {word_in(placing, row, other) for placing in known}
                self.assertEqual(self.look_through(ledger, row, other), tuple(sorted(words)), (ledger, row, other))
                seen.add(tuple(sorted(words)))
        self.assertGreaterEqual(len(seen), 6)

    def test_of_24_rows(self):
        chance = random.Random(34)
        for off in (0, 200 - 10 ** 9):
            ledger = full_ledger(chance, off)
            for row, other in itertools.permutations(chance.sample(rows_of(ledger), 4), 2):
                words = self.look_through(ledger, row, other)
                low, high = apart(ledger, row, other)
                self.assertEqual("ahead" in words, high >= 1)
                self.assertEqual("at once" in words, low <= 0 <= high)
                self.assertEqual("behind" in words, low <= -1)


class TestRefusals(unittest.TestCase):
    def refuses_word(self, deed, *things):
        for _ in range(2):
            with self.assertRaises(NoWord):
                deed(*things)

    def test_quarrels(self):
        for _, ledger in quarrels() + [(None, full_quarrel(random.Random(35)))]:
            first, last = rows_of(ledger)[0], rows_of(ledger)[-1]
            for deed in OF_TWO_ROWS:
                refuses_quarrel(self, deed, ledger, first, last)
                refuses_quarrel(self, deed, ledger, last, first)

    def test_quarrels_ahead_of_all_else(self):
        for _, ledger in quarrels():
            row = rows_of(ledger)[0]
            for deed in OF_TWO_ROWS:
                refuses_quarrel(self, deed, ledger, row, row)
                for thing in (None, "nobody", True, 7, [], {}, ("x",)):
                    refuses_quarrel(self, deed, ledger, thing, row)
                    refuses_quarrel(self, deed, ledger, row, thing)
                    refuses_quarrel(self, deed, ledger, thing, thing)
            for word in (None, "nobody", "", []):
                refuses_quarrel(self, shown, ledger, row, "nobody", word)
                refuses_quarrel(self, shown, ledger, row, row, word)

    def test_what_is_no_row(self):
        for deed in OF_TWO_ROWS:
            for thing in no_rows():
                with self.subTest(kind=type(thing)):
                    refuses_row(self, deed, thing, big(), thing, "x")
                    refuses_row(self, deed, thing, big(), "x", thing)
                    refuses_row(self, deed, thing, big(), thing, thing)

    def test_the_first_from_the_left(self):
        for deed in OF_TWO_ROWS:
            for one, other in (("nobody", "noone"), (None, "nobody"), (["x"], None), ({}, [])):
                refuses_row(self, deed, one, big(), one, other)
                refuses_row(self, deed, other, big(), other, one)

    def test_no_row_ahead_of_the_word(self):
        for word in odd_things():
            refuses_row(self, shown, "w", big(), "w", "x", word)
            refuses_row(self, shown, "w", big(), "x", "w", word)
            refuses_row(self, shown, "w", big(), "w", "w", word)

    def test_twice_the_same_row(self):
        for row in rows_of(big()):
            self.refuses_word(can_be, big(), row, row)
            for word in WORDS + ("first", None, []):
                self.refuses_word(shown, big(), row, row, word)

    def test_other_words(self):
        for word in odd_things() + [0, 1, "Ahead", "ahea", "aheadd", "at  once", "atonce", " behind", "same", "x", ("ahead",)]:
            with self.subTest(kind=type(word)):
                self.refuses_word(shown, big(), "x", "p", word)
                self.refuses_word(shown, big(), "x", "y", word)
        self.refuses_word(shown, big(), "x", "y", ["ahead"])
        self.refuses_word(shown, big(), "x", "y", b"ahead")


if __name__ == "__main__":
    unittest.main()
