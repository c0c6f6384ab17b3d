import itertools
import random
import unittest

from skewbooks.bounds import bounds_of, leads
from skewbooks.chains import chain_of, is_bare
from tests.helper import big, odd_things, one_house, same_behind, small_ledger, two_rows

# A ring of big() that goes through None once, and one that goes through it twice.
BARE = (("early", "p"), ("least", 0), ("next", "y", "v"), ("late", "v"))
TWICE = (("early", "p"), ("late", "p"), ("early", "x"), ("late", "x"))


def turned_on(ring):
    """The ring begun at each of its bounds."""
    return [ring[place:] + ring[:place] for place in range(len(ring))]


class TestChainOf(unittest.TestCase):
    def test_one_bound(self):
        for bound in bounds_of(big()):
            self.assertEqual(same_behind(self, chain_of, big(), (bound,)), leads(big(), bound))

    def test_several_bounds(self):
        chain = (("early", "x"), ("slow", "x", "y"), ("least", 2), ("least", 1))
        self.assertEqual(chain_of(big(), chain), (None, "z", 2 + 1 + 1 + 3))
        self.assertEqual(chain_of(big(), chain[1:]), ("x", "z", 1 + 1 + 3))
        self.assertEqual(chain_of(big(), chain[1:3]), ("x", "q", 1 + 1))
        self.assertEqual(chain_of(big(), (("late", "z"), ("early", "p"))), ("z", "p", -13 - 9))
        self.assertIsInstance(chain_of(big(), chain), tuple)

    def test_a_ring(self):
        for ring in turned_on(BARE):
            start = leads(big(), ring[0])[0]
            self.assertEqual(chain_of(big(), ring), (start, start, -9 + 2 + 1 - 14))
        self.assertEqual(chain_of(big(), TWICE), (None, None, -9 - 1 + 2 - 7))

    def test_the_same_bound_again(self):
        there_and_back = (("next", "x", "y"), ("fast", "x", "y"))
        self.assertEqual(chain_of(big(), there_and_back * 25), ("x", "x", 25 * (1 - 3)))
        self.assertEqual(chain_of(big(), there_and_back * 3 + there_and_back[:1]), ("x", "y", 3 * -2 + 1))
        self.assertIsNone(chain_of(big(), (("next", "x", "y"), ("next", "x", "y"))))

    def test_none_in_the_middle(self):
        self.assertEqual(chain_of(big(), (("late", "x"), ("early", "q"))), ("x", "q", -7 - 1))
        self.assertIsNone(chain_of(big(), (("early", "q"), ("early", "x"))))
        self.assertIsNone(chain_of(big(), (("late", "q"), ("late", "x"))))

    def test_each_two_bounds(self):
        for pair in itertools.product(bounds_of(big()), repeat=2):
            (start, middle, more), (onward, end, again) = [leads(big(), bound) for bound in pair]
            told = (start, end, more + again) if middle == onward else None
            self.assertEqual(chain_of(big(), pair), told, pair)

    def test_a_gap_in_a_longer_chain(self):
        chain = (("early", "x"), ("next", "x", "y"), ("next", "y", "v"), ("next", "v", "z"), ("late", "z"))
        self.assertEqual(chain_of(big(), chain), (None, None, 2 + 1 + 1 + 1 - 13))
        for place in range(1, 4):
            self.assertIsNone(chain_of(big(), chain[:place] + chain[place + 1:]))
        self.assertIsNone(chain_of(big(), chain[::-1]))

    def test_without_bounds(self):
        for ledger in (big(), one_house(0, 1, 0)):
            self.assertIsNone(same_behind(self, chain_of, ledger, ()))

    def test_a_list_for_a_tuple(self):
        self.assertIsNone(chain_of(big(), list(BARE)))
        self.assertIsNone(chain_of(big(), [("early", "x")]))
        for place in range(len(BARE)):
            self.assertIsNone(chain_of(big(), BARE[:place] + (list(BARE[place]),) + BARE[place + 1:]))

    def test_a_bound_by_itself(self):
        for bound in bounds_of(big()):
            self.assertIsNone(chain_of(big(), bound))
            self.assertIsNone(chain_of(big(), ((bound,),)))
            self.assertIsNone(chain_of(big(), {bound: True}))

    def test_a_truth_for_a_letters_number(self):
        ledger = two_rows(1, 4)
        self.assertEqual(chain_of(ledger, (("least", 0), ("most", 0))), ("a", "a", -3))
        self.assertIsNone(chain_of(ledger, (("least", False),)))
        self.assertIsNone(chain_of(ledger, (("least", 0), ("most", False))))
        self.assertEqual(chain_of(big(), (("least", 1),)), ("q", "z", 3))
        self.assertIsNone(chain_of(big(), (("least", True),)))

    def test_a_bound_of_another_ledger(self):
        small = one_house(0, 1, 0, (("x", 1), ("y", 2)))
        for bound in bounds_of(big()):
            self.assertEqual(chain_of(small, (bound,)) is None, bound not in bounds_of(small), bound)
        self.assertIsNone(chain_of(small, (("early", "x"), ("next", "x", "y"), ("next", "y", "v"))))
        self.assertIsNone(chain_of(big(), (("least", 3),)))
        self.assertIsNone(chain_of(big(), (("most", 2),)))

    def test_a_step_along_an_order_is_no_bound(self):
        self.assertIsNone(chain_of(big(), (("along", 0),)))

    def test_things_of_any_kind(self):
        for thing in odd_things() + [0, 1, "w", "early", big(), (("early", "x"), None), ((), ())]:
            with self.subTest(kind=type(thing)):
                self.assertIsNone(chain_of(big(), thing))
                self.assertIsNone(chain_of(big(), (("early", "x"), thing)))
                self.assertIsNone(chain_of(big(), (thing, ("late", "x"))))
                self.assertIsNone(chain_of(big(), (("early", thing), ("late", "x"))))
                self.assertIsNone(chain_of(one_house(0, 1, 0), thing))

    def test_what_is_handed_in_is_the_same_behind_it(self):
        ledger, thing = big(), [["early", "x"], ["late", "x"]]
        self.assertIsNone(chain_of(ledger, thing))
        self.assertEqual((ledger, thing), (big(), [["early", "x"], ["late", "x"]]))

    def test_walks_by_chance(self):
        chance = random.Random(3)
        for _ in range(100):
            ledger = small_ledger(chance)
            told = {bound: leads(ledger, bound) for bound in bounds_of(ledger)}
            if not told:
                continue
            chain = [chance.choice(sorted(told))]
            for _ in range(chance.randrange(50)):
                end = told[chain[-1]][1]
                chain.append(chance.choice([bound for bound in told if told[bound][0] == end]))
            whole = (told[chain[0]][0], told[chain[-1]][1], sum(told[bound][2] for bound in chain))
            self.assertEqual(chain_of(ledger, tuple(chain)), whole)


class TestIsBare(unittest.TestCase):
    def bare(self, ledger, ring, answer):
        for turned in turned_on(ring):
            start, end, _ = chain_of(ledger, turned)
            self.assertEqual(start, end)
            self.assertIs(same_behind(self, is_bare, ledger, turned), answer)

    def test_bare(self):
        self.bare(big(), BARE, True)
        self.bare(big(), (("early", "x"), ("late", "x")), True)
        self.bare(big(), (("next", "x", "y"), ("fast", "x", "y")), True)
        self.bare(big(), (("least", 1), ("most", 1)), True)
        self.bare(big(), (("early", "x"), ("next", "x", "y"), ("next", "y", "v"), ("next", "v", "z"), ("late", "z")), True)

    def test_through_none_twice(self):
        self.bare(big(), TWICE, False)

    def test_through_a_row_twice(self):
        self.bare(big(), (("slow", "x", "y"), ("least", 2), ("late", "q"), ("early", "y"), ("fast", "x", "y")), False)
        self.bare(big(), (("next", "x", "y"), ("fast", "x", "y"), ("slow", "x", "y"), ("fast", "x", "y")), False)

    def test_the_same_ring_twice(self):
        self.bare(big(), BARE * 2, False)

    def test_twice_to_the_row_where_it_begins(self):
        ring = (("next", "x", "y"), ("fast", "x", "y"), ("next", "x", "y"), ("next", "y", "v"), ("fast", "x", "v"))
        self.bare(big(), ring, False)


if __name__ == "__main__":
    unittest.main()
