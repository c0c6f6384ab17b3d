import random
import unittest

from skewbooks.bounds import bounds_of, leads
from skewbooks.errors import NoBound
from skewbooks.ledgers import is_ledger, is_placing
from tests.helper import Odd, big, odd_things, one_house, same_behind, small_ledger, two_rows

# Written out by hand from the ledger big().
BIG = (
    (("early", "p"), (None, "p", 1 - 10)),
    (("early", "q"), (None, "q", 9 - 10)),
    (("early", "v"), (None, "v", 12 - 3)),
    (("early", "x"), (None, "x", 5 - 3)),
    (("early", "y"), (None, "y", 7 - 3)),
    (("early", "z"), (None, "z", 11 - 3)),
    (("fast", "p", "q"), ("q", "p", -8 - 2)),
    (("fast", "x", "v"), ("v", "x", -7 - 1)),
    (("fast", "x", "y"), ("y", "x", -2 - 1)),
    (("fast", "y", "v"), ("v", "y", -5 - 1)),
    (("late", "p"), ("p", None, 0 - 1)),
    (("late", "q"), ("q", None, 0 - 9)),
    (("late", "v"), ("v", None, -2 - 12)),
    (("late", "x"), ("x", None, -2 - 5)),
    (("late", "y"), ("y", None, -2 - 7)),
    (("late", "z"), ("z", None, -2 - 11)),
    (("least", 0), ("p", "y", 2)),
    (("least", 1), ("q", "z", 3)),
    (("least", 2), ("y", "q", 1)),
    (("most", 0), ("y", "p", -6)),
    (("most", 1), ("z", "q", -3)),
    (("next", "p", "q"), ("p", "q", 1)),
    (("next", "v", "z"), ("v", "z", 1)),
    (("next", "x", "y"), ("x", "y", 1)),
    (("next", "y", "v"), ("y", "v", 1)),
    (("slow", "p", "q"), ("p", "q", 8 - 2)),
    (("slow", "x", "v"), ("x", "v", 7 - 1)),
    (("slow", "x", "y"), ("x", "y", 2 - 1)),
    (("slow", "y", "v"), ("y", "v", 5 - 1)),
)


class TestBoundsOf(unittest.TestCase):
    def test_all_rising_each_once(self):
        told = same_behind(self, bounds_of, big())
        self.assertIsInstance(told, tuple)
        self.assertEqual(told, tuple(bound for bound, lead in BIG))
        self.assertEqual(list(told), sorted(set(told)))

    def test_without_rows(self):
        self.assertEqual(bounds_of(one_house(0, 1, 0)), ())

    def test_one_row(self):
        self.assertEqual(bounds_of(one_house(0, 1, 0, (("x", 4),))), (("early", "x"), ("late", "x")))

    def test_no_most_where_it_is_none(self):
        told = bounds_of(two_rows(1, None))
        self.assertEqual([bound for bound in told if bound[0] in ("least", "most")], [("least", 0)])
        told = bounds_of(two_rows(1, 1))
        self.assertEqual([bound for bound in told if bound[0] in ("least", "most")], [("least", 0), ("most", 0)])

    def test_no_slow_and_fast_between_runs(self):
        told = bounds_of(one_house(0, 1, 0, (("x", 1),), (("y", 2),)))
        self.assertEqual(told, (("early", "x"), ("early", "y"), ("late", "x"), ("late", "y"), ("next", "x", "y")))

    def test_letters_by_their_numbers(self):
        left = tuple((name, k) for k, name in enumerate("abcd"))
        right = tuple((name, k) for k, name in enumerate("wxyz"))
        pairs = [(sent, taken) for sent in "abcd" for taken in "wxyz"][:12]
        letters = tuple((sent, taken, 1, None) for sent, taken in pairs)
        ledger = ((("g", 0, 1, 0, (left,)), ("h", 0, 1, 0, (right,))), letters)
        self.assertTrue(is_ledger(ledger))
        told = [bound for bound in bounds_of(ledger) if bound[0] == "least"]
        self.assertEqual(told, [("least", number) for number in range(12)])
        for number, (sent, taken) in enumerate(pairs):
            self.assertEqual(leads(ledger, ("least", number)), (sent, taken, 1))

    def test_as_many_as_can_be(self):
        run = tuple((chr(97 + k), 3 * k) for k in range(24))
        told = bounds_of(one_house(-5, 5, 1, run))
        self.assertEqual(len(told), 2 * 24 + 23 + 2 * (24 * 23 // 2))
        self.assertEqual(list(told), sorted(set(told)))


class TestLeads(unittest.TestCase):
    def refuses(self, ledger, bound):
        for _ in range(2):
            with self.assertRaises(NoBound):
                leads(ledger, bound)

    def test_where_each_leads(self):
        for bound, lead in BIG:
            with self.subTest(bound):
                told = same_behind(self, leads, big(), bound)
                self.assertIsInstance(told, tuple)
                self.assertEqual(told, lead)

    def test_below_nought(self):
        ledger = one_house(-7, -3, 0, (("x", -10), ("y", -4)))
        self.assertEqual(leads(ledger, ("early", "x")), (None, "x", -7))
        self.assertEqual(leads(ledger, ("late", "x")), ("x", None, 3))
        self.assertEqual(leads(ledger, ("slow", "x", "y")), ("x", "y", 6))
        self.assertEqual(leads(ledger, ("fast", "x", "y")), ("y", "x", -6))

    def test_another_word(self):
        for bound, _ in BIG:
            for word in ("", "Early", "along", "earl", "early ", "least\n", "x", "p", None, 0, True, b"early", ("early",)):
                self.refuses(big(), (word,) + bound[1:])
        for word in ("early", "late", "next", "slow", "fast", "least", "most"):
            self.refuses(big(), (word,))
            self.refuses(big(), word)

    def test_words_exchanged(self):
        told = set(bounds_of(big()))
        for bound, _ in BIG:
            for word in ("early", "late", "next", "slow", "fast", "least", "most"):
                other = (word,) + bound[1:]
                if other not in told:
                    self.refuses(big(), other)

    def test_rows_exchanged(self):
        for bound, _ in BIG:
            if len(bound) == 3:
                self.refuses(big(), (bound[0], bound[2], bound[1]))
                self.refuses(big(), (bound[0], bound[1], bound[1]))

    def test_rows_that_are_no_neighbours(self):
        for pair in (("x", "v"), ("x", "z"), ("y", "z"), ("p", "x"), ("q", "x"), ("z", "p")):
            self.refuses(big(), ("next",) + pair)

    def test_rows_of_unlike_runs_or_houses(self):
        for word in ("slow", "fast"):
            for pair in (("v", "z"), ("x", "z"), ("p", "x"), ("x", "q")):
                self.refuses(big(), (word,) + pair)

    def test_rows_that_are_none(self):
        for name in ("w", "ha", "", "X", "pq", None, 0, True):
            self.refuses(big(), ("early", name))
            self.refuses(big(), ("late", name))
            for word in ("next", "slow", "fast"):
                self.refuses(big(), (word, "x", name))
                self.refuses(big(), (word, name, "y"))

    def test_letters_that_are_none(self):
        for word in ("least", "most"):
            for number in (3, 4, 24, 10 ** 9, -1, -2, -3, True, False, None, "0", "", "p", (0,), [0]):
                self.refuses(big(), (word, number))
        self.refuses(big(), ("most", 2))
        self.refuses(two_rows(1, None), ("most", 0))
        self.refuses(two_rows(1, 1), ("least", False))
        self.refuses(one_house(0, 1, 0, (("x", 1),)), ("least", 0))

    def test_a_list_for_a_tuple(self):
        for bound, _ in BIG:
            self.refuses(big(), list(bound))
            self.refuses(big(), (list(bound),))
            self.refuses(big(), dict([bound[:2]]))

    def test_a_part_more_or_fewer(self):
        for bound, _ in BIG:
            for more in (None, 0, "x", "p", (), []):
                self.refuses(big(), bound + (more,))
                self.refuses(big(), (more,) + bound)
            for place in range(len(bound)):
                self.refuses(big(), bound[:place] + bound[place + 1:])
            self.refuses(big(), (bound,))

    def test_parts_of_other_kinds(self):
        for bound, _ in BIG:
            for place in range(len(bound)):
                for thing in odd_things():
                    self.refuses(big(), bound[:place] + (thing,) + bound[place + 1:])

    def test_things_of_any_kind(self):
        for thing in odd_things() + [0, 1, "x", (), ("x",), big(), Odd(), ("early", {}), ("early", set()), ("least", [])]:
            with self.subTest(kind=type(thing)):
                self.refuses(big(), thing)
                self.refuses(one_house(0, 1, 0), thing)

    def test_what_is_refused_is_left_as_it_was(self):
        ledger, bound = big(), ["early", ["x"]]
        self.refuses(ledger, bound)
        self.assertEqual((ledger, bound), (big(), ["early", ["x"]]))

    def test_a_bound_of_another_ledger(self):
        self.refuses(one_house(0, 1, 0, (("x", 1),)), ("early", "y"))
        self.refuses(one_house(0, 1, 0, (("x", 1), ("y", 2))), ("slow", "x", "v"))


def near_moments(chance, ledger):
    """A moment for each row, by which its clock is off by what is told, or by one beyond it."""
    return {
        row: reading - chance.randint(low - 1, high + 1)
        for _, low, high, _, runs in ledger[0] for run in runs for row, reading in run
    }


class TestBoundsTellAll(unittest.TestCase):
    def test_moments_are_a_placing_just_where_they_keep_to_all_bounds(self):
        chance = random.Random(7)
        seen = {True: 0, False: 0}
        for _ in range(300):
            ledger = small_ledger(chance)
            self.assertTrue(is_ledger(ledger))
            told = [leads(ledger, bound) for bound in bounds_of(ledger)]
            for _ in range(40):
                moments = near_moments(chance, ledger)
                placing = tuple(sorted(moments.items()))
                moments[None] = 0
                kept = all(moments[to] - moments[start] >= more for start, to, more in told)
                self.assertIs(is_placing(ledger, placing), kept, (ledger, placing))
                if len(placing) > 1:
                    seen[kept] += 1
        self.assertGreater(min(seen.values()), 200)


if __name__ == "__main__":
    unittest.main()
