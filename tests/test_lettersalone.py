import itertools
import random
import unittest

from skewbooks.bounds import bounds_of, leads
from skewbooks.chains import chain_of
from skewbooks.errors import NoPlacing
from skewbooks.ledgers import rows_of
from skewbooks.lettersalone import by_letters, counts
from skewbooks.pairs import can_be
from skewbooks.settling import placed
from tests.helper import (
    big, full_ledger, full_quarrel, no_rows, odd_things, one_house, quarrels, refuses_row, same_behind, small_ledger, two_rows,
)


def steps_alone(ledger):
    """Where the bounds next and least lead: pairs of rows."""
    return [leads(ledger, bound)[:2] for bound in bounds_of(ledger) if bound[0] in ("next", "least")]


def chains_by_hand(ledger):
    """All ways of one or more such bounds that meet no row twice but perhaps the first one at the end."""
    steps = steps_alone(ledger)
    ways, found = [[start, end] for start, end in steps], []
    while ways:
        way = ways.pop()
        found.append(way)
        if way[-1] not in way[:-1]:
            ways.extend(way + [end] for start, end in steps if start == way[-1] and end not in way[1:])
    return found


def house(name, rows):
    """A house whose clock tells nothing, each row in a run of its own."""
    return (name, -10 ** 6, 10 ** 6, 0, tuple(((row, 0),) for row in rows))


# A ring of letters and neighbours through four rows, with a row ahead of it, one behind it and one beside it.
RING = (
    (house("g", "abc"), house("h", "pqr"), house("k", "z")),
    (("c", "p", 1, None), ("q", "b", 2, 5)),
)


class TestByLetters(unittest.TestCase):
    def test_within_a_house(self):
        ledger = one_house(0, 9, 9, (("y", 1), ("x", 5)), (("a", 9), ("b", 11)))
        for (place, row), (other_place, other) in itertools.product(enumerate("yxab"), repeat=2):
            self.assertIs(same_behind(self, by_letters, ledger, row, other), place < other_place)

    def test_by_a_letter(self):
        for most in (None, 4):
            self.assertIs(by_letters(two_rows(1, most), "a", "b"), True)
            self.assertIs(by_letters(two_rows(1, most), "b", "a"), False)
            self.assertIs(by_letters(two_rows(1, most), "a", "a"), False)
            self.assertIs(by_letters(two_rows(1, most), "b", "b"), False)

    def test_mixed(self):
        # x y v z are of one house, p q of another; letters go p to y, y to q, q to z.
        ahead = {
            "x": "yvzq", "y": "vzq", "v": "z", "z": "", "p": "qyvz", "q": "z",
        }
        for row, other in itertools.product(ahead, repeat=2):
            self.assertIs(by_letters(big(), row, other), other in ahead[row], (row, other))

    def test_clocks_tell_nothing(self):
        houses = (("g", 0, 0, 0, ((("a", 0),),)), ("h", 0, 0, 0, ((("b", 10 ** 9),),)))
        self.assertEqual(can_be((houses, ()), "a", "b"), ("ahead",))
        self.assertIs(by_letters((houses, ()), "a", "b"), False)
        self.assertIs(by_letters((houses, ()), "b", "a"), False)

    def test_a_ring(self):
        ahead = {"a": "bcpqr", "b": "bcpqr", "c": "bcpqr", "p": "bcpqr", "q": "bcpqr", "r": "", "z": ""}
        for row, other in itertools.product(ahead, repeat=2):
            self.assertIs(same_behind(self, by_letters, RING, row, other), other in ahead[row], (row, other))

    def test_against_all_chains(self):
        chance = random.Random(51)
        seen = {True: 0, False: 0}
        itself = 0
        for _ in range(300):
            ledger = small_ledger(chance)
            known = {(way[0], way[-1]) for way in chains_by_hand(ledger)}
            for row, other in itertools.product(rows_of(ledger), repeat=2):
                answer = by_letters(ledger, row, other)
                self.assertIs(answer, (row, other) in known, (ledger, row, other))
                seen[answer] += 1
                itself += answer and row == other
        self.assertGreater(min(seen.values()), 500)
        self.assertGreater(itself, 20)

    def test_ahead_by_letters_is_surely_ahead(self):
        chance = random.Random(52)
        seen = 0
        for ledger in [full_ledger(chance)] + [small_ledger(chance, 0.15) for _ in range(150)]:
            if placed(ledger)[0] == "quarrel":
                continue
            count = dict(counts(ledger))
            for row, other in itertools.permutations(rows_of(ledger)[:8], 2):
                if by_letters(ledger, row, other):
                    self.assertEqual(can_be(ledger, row, other), ("ahead",))
                    self.assertLess(count[row], count[other])
                    seen += 1
        self.assertGreater(seen, 100)

    def test_a_ledger_that_quarrels_is_answered(self):
        for _, ledger in quarrels() + [(None, full_quarrel(random.Random(53)))]:
            known = set(steps_alone(ledger))
            for row, other in itertools.product(rows_of(ledger)[:6], repeat=2):
                self.assertIs(by_letters(ledger, row, other) or (row, other) not in known, True)

    def test_what_is_no_row(self):
        for thing in no_rows():
            with self.subTest(kind=type(thing)):
                refuses_row(self, by_letters, thing, big(), thing, "x")
                refuses_row(self, by_letters, thing, big(), "x", thing)
                refuses_row(self, by_letters, thing, big(), thing, thing)
        for thing in odd_things():
            refuses_row(self, by_letters, thing, one_house(0, 1, 0), thing, "x")

    def test_the_first_from_the_left(self):
        for ledger in (big(), RING, quarrels()[0][1]):
            for one, other in (("nobody", "noone"), (None, "nobody"), (["x"], None), ({}, [])):
                refuses_row(self, by_letters, one, ledger, one, other)
                refuses_row(self, by_letters, other, ledger, other, one)


class TestCounts(unittest.TestCase):
    def refuses_ring(self, ledger):
        """Refused with a ring of such bounds alone that ends where it begins."""
        rings = []
        for _ in range(2):
            with self.assertRaises(NoPlacing) as caught:
                counts(ledger)
            ring = caught.exception.ring
            self.assertEqual({bound[0] for bound in ring} - {"next", "least"}, set())
            start, end, more = chain_of(ledger, ring)
            self.assertEqual(start, end)
            self.assertGreaterEqual(more, len(ring))
            rings.append(ring)
        self.assertEqual(rings[0], rings[1])

    def test_by_hand(self):
        self.assertEqual(same_behind(self, counts, one_house(0, 1, 0)), ())
        self.assertEqual(counts(one_house(0, 1, 0, (("x", 1),))), (("x", 1),))
        self.assertEqual(counts(two_rows(5, 9)), (("a", 1), ("b", 2)))
        self.assertEqual(
            same_behind(self, counts, big()), (("p", 1), ("q", 3), ("v", 3), ("x", 1), ("y", 2), ("z", 4))
        )
        self.assertIsInstance(counts(big()), tuple)

    def test_the_longest_chain(self):
        houses = (house("g", "abcd"), house("h", "pq"), house("k", "z"))
        letters = (("a", "q", 9, None), ("c", "q", 1, None), ("p", "b", 1, 1), ("q", "d", 1, None))
        told = counts((houses, letters))
        self.assertEqual(told, (("a", 1), ("b", 2), ("c", 3), ("d", 5), ("p", 1), ("q", 4), ("z", 1)))

    def test_24_rows_in_one_chain(self):
        names = [chr(97 + k) for k in range(24)][::-1]
        houses = (house("g", names[::2]), house("h", names[1::2]))
        letters = tuple(sorted((sent, taken, 10, None) for sent, taken in zip(names, names[1:])))
        told = counts((houses, letters))
        self.assertEqual(told, tuple(sorted((name, place + 1) for place, name in enumerate(names))))

    def test_a_ring(self):
        self.refuses_ring(RING)
        crossed = ((house("g", "a"), house("h", "p")), (("a", "p", 1, None), ("p", "a", 1, None)))
        self.refuses_ring(crossed)

    def test_ledgers_that_quarrel_otherwise_are_answered(self):
        answered = 0
        for _, ledger in quarrels():
            self.assertEqual(placed(ledger)[0], "quarrel")
            if any(way[0] == way[-1] for way in chains_by_hand(ledger)):
                self.refuses_ring(ledger)
            else:
                self.assertEqual(tuple(row for row, _ in counts(ledger)), rows_of(ledger))
                answered += 1
        self.assertGreaterEqual(answered, 5)
        self.assertEqual(counts(one_house(0, 0, 0, (("x", 5),), (("y", 5),))), (("x", 1), ("y", 2)))

    def test_against_all_chains(self):
        chance = random.Random(54)
        seen = {"told": 0, "ring": 0}
        for _ in range(300):
            ledger = small_ledger(chance)
            known = chains_by_hand(ledger)
            if any(way[0] == way[-1] for way in known):
                self.refuses_ring(ledger)
                seen["ring"] += 1
            else:
                longest = {row: max([1] + [len(way) for way in known if way[-1] == row]) for row in rows_of(ledger)}
                self.assertEqual(same_behind(self, counts, ledger), tuple(sorted(longest.items())), ledger)
                seen["told"] += 1
        self.assertGreater(min(seen.values()), 30)

    def test_rising_along_each_chain(self):
        chance = random.Random(55)
        for off in (0, 10 ** 9 - 200):
            ledger = full_ledger(chance, off)
            count = dict(counts(ledger))
            self.assertEqual(tuple(sorted(count)), rows_of(ledger))
            for row, other in steps_alone(ledger):
                self.assertLess(count[row], count[other])


if __name__ == "__main__":
    unittest.main()
