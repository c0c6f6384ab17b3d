import itertools
import random
import unittest

from skewbooks.errors import NoNumber, NoOrder, TooMany
from skewbooks.ledgers import is_ledger, rows_of
from skewbooks.moments import earliest
from skewbooks.orders import number_of, order_at, orders, plain_order
from tests.helper import (
    all_placings, big, full_ledger, full_quarrel, odd_things, one_house, quarrels, refuses_quarrel, same_behind,
    small_ledger, two_rows,
)

FAR = 10 ** 6

# Seven rows each: the one ledger can have come in 200 orders, the other in 201.
JUST_200 = ((
    ("p", -3, 2, 0, ((("b", 1),),)),
    ("r", -1, 2, 1, ((("a", 1), ("c", 3), ("f", 5)),)),
    ("t", -2, 1, 0, ((("d", 1), ("e", 3)),)),
    ("u", 0, 0, 3, ((("g", 1),),)),
), ())
JUST_201 = ((
    ("r", -1, 1, 2, ((("f", 1),),)),
    ("s", 0, 3, 0, ((("a", 1), ("b", 3), ("g", 5)),)),
    ("t", -4, 0, 0, ((("c", 1),),)),
    ("u", -3, 0, 1, ((("d", 1), ("e", 3)),)),
), ())


def loose(*houses):
    """A ledger of houses with these rows, one a sign; no clock tells anything."""
    return (tuple(
        (name, -FAR, FAR, 2 * FAR, (tuple((row, place) for place, row in enumerate(rows)),) if rows else ())
        for name, rows in zip("pqrstu", houses)
    ), ())


def orders_by_hand(ledger):
    """All orders along which some placing doesn't fall, from all placings of the ledger."""
    found = set()
    for placing in all_placings(ledger):
        groups = {}
        for row, moment in placing:
            groups.setdefault(moment, []).append(row)
        mixed = [itertools.permutations(groups[moment]) for moment in sorted(groups)]
        found.update(tuple(itertools.chain(*parts)) for parts in itertools.product(*mixed))
    return sorted(found)


class TestOrders(unittest.TestCase):
    def look_through(self, ledger):
        """The orders are rising, each once, each with its number. Gives them."""
        self.assertTrue(is_ledger(ledger))
        told = same_behind(self, orders, ledger)
        self.assertIsInstance(told, list)
        self.assertEqual(told, sorted(set(told)))
        for number, order in enumerate(told):
            self.assertIsInstance(order, tuple)
            self.assertEqual(tuple(sorted(order)), rows_of(ledger))
        for number in sorted({0, len(told) // 2, len(told) - 1}):
            self.assertEqual(same_behind(self, order_at, ledger, number), told[number])
            self.assertEqual(same_behind(self, number_of, ledger, told[number]), number)
        self.assertIn(same_behind(self, plain_order, ledger), told)
        return told

    def test_without_rows(self):
        self.assertEqual(self.look_through(one_house(0, 1, 0)), [()])
        self.assertEqual(order_at(one_house(0, 1, 0), 0), ())
        self.assertEqual(number_of(one_house(0, 1, 0), ()), 0)

    def test_by_hand(self):
        self.assertEqual(self.look_through(one_house(0, 9, 9, (("y", 1), ("x", 5)), (("a", 9),))), [("y", "x", "a")])
        self.assertEqual(self.look_through(two_rows(1, None)), [("a", "b")])
        self.assertEqual(self.look_through(loose("a", "b")), [("a", "b"), ("b", "a")])
        self.assertEqual(self.look_through(loose("ba", "c")), [("b", "a", "c"), ("b", "c", "a"), ("c", "b", "a")])

    def test_rows_at_once_go_either_way(self):
        houses = (("g", 0, 0, 0, ((("a", 5),),)), ("h", 0, 0, 0, ((("b", 5),),)))
        self.assertEqual(self.look_through((houses, ())), [("a", "b"), ("b", "a")])

    def test_what_can_be_by_pairs_but_not_together(self):
        # y is just 10 behind x: each of them can come between p and q, but not both.
        ledger = ((("g", -20, 20, 0, ((("x", 0), ("y", 10)),)), ("h", 0, 0, 0, ((("p", 5), ("q", 6)),))), ())
        told = self.look_through(ledger)
        self.assertEqual(told, orders_by_hand(ledger))
        self.assertIn(("p", "x", "q", "y"), told)
        self.assertIn(("x", "p", "y", "q"), told)
        self.assertNotIn(("p", "x", "y", "q"), told)

    def test_against_all_placings(self):
        chance = random.Random(41)
        seen = 0
        for _ in range(400):
            ledger = small_ledger(chance, 0.1)
            known = orders_by_hand(ledger)
            if known:
                self.assertEqual(self.look_through(ledger), known, ledger)
                seen += len(known) > 1
        self.assertGreater(seen, 50)

    def test_seven_rows(self):
        self.assertEqual(len(self.look_through(loose("abcd", "efg"))), 35)
        self.assertEqual(len(self.look_through(loose("abc", "efg", "x"))), 140)
        self.assertEqual(self.look_through(loose("bacdegf")), [tuple("bacdegf")])

    def test_two_hundred_orders_are_told(self):
        known = orders_by_hand(JUST_200)
        self.assertEqual(len(known), 200)
        self.assertEqual(self.look_through(JUST_200), known)
        self.assertEqual(order_at(JUST_200, 199), known[199])

    def test_too_many_orders(self):
        self.assertEqual(len(orders_by_hand(JUST_201)), 201)
        for ledger in (JUST_201, loose("ab", "cd", "efg"), loose("a", "b", "c", "d", "ef"), loose("a", "b", "c", "d", "e", "fg")):
            self.assertLessEqual(len(rows_of(ledger)), 7)
            self.too_many(ledger)

    def test_six_rows(self):
        self.assertEqual(len(self.look_through(loose("abc", "d", "e", "f"))), 120)

    def test_too_many_rows(self):
        for ledger in (one_house(0, 1, 0, tuple((name, 5 * place) for place, name in enumerate("abcdefgh"))), loose("abcdefgh"),
                       loose("a", "b", "c", "d", "efg", "hijklm"), full_ledger(random.Random(42))):
            self.assertGreater(len(rows_of(ledger)), 7)
            self.too_many(ledger)

    def too_many(self, ledger):
        """Refused with TooMany, ahead of what is no number and no order."""
        names = rows_of(ledger)
        for _ in range(2):
            with self.assertRaises(TooMany):
                orders(ledger)
            for number in (0, 1, 200, -1, None, True, "0", []):
                with self.assertRaises(TooMany):
                    order_at(ledger, number)
            for order in (names, plain_order(ledger), (), None, list(names), [], {}, 3):
                with self.assertRaises(TooMany):
                    number_of(ledger, order)

    def test_a_told_list_is_the_askers_own(self):
        ledger = loose("ab", "c")
        told = orders(ledger)
        known = list(told)
        told.reverse()
        told[0] = ("x",)
        told.append(None)
        self.assertEqual(orders(ledger), known)
        self.assertEqual([order_at(ledger, number) for number in range(3)], known)
        told = orders(ledger)
        told.clear()
        self.assertEqual([number_of(ledger, order) for order in known], [0, 1, 2])


class TestRefusals(unittest.TestCase):
    def test_quarrels_ahead_of_all_else(self):
        crowd = one_house(0, 0, 0, *[((name, 5),) for name in "abcdefgh"])
        for ledger in [ledger for _, ledger in quarrels()] + [crowd, full_quarrel(random.Random(43))]:
            refuses_quarrel(self, orders, ledger)
            refuses_quarrel(self, plain_order, ledger)
            for thing in (0, -1, None, True, "0", [], {}):
                refuses_quarrel(self, order_at, ledger, thing)
            for thing in (rows_of(ledger), (), None, [], {}, "x"):
                refuses_quarrel(self, number_of, ledger, thing)

    def test_what_is_no_number(self):
        ledger = loose("ba", "c")
        wrong = [-1, -2, -3, 3, 4, 10 ** 9, -10 ** 9, "0", "", "a", b"0", (0,), [0], {0: 0}, ("b", "a", "c"), True, False]
        for thing in wrong + odd_things():
            with self.subTest(kind=type(thing)):
                for _ in range(2):
                    with self.assertRaises(NoNumber):
                        order_at(ledger, thing)
        with self.assertRaises(NoNumber):
            order_at(one_house(0, 1, 0), 1)
        with self.assertRaises(NoNumber):
            order_at(one_house(0, 1, 0), False)

    def test_what_is_no_order(self):
        ledger = loose("ba", "c")
        wrong = [
            (), ("b",), ("b", "a"), ("b", "c"), ("b", "a", "a"), ("b", "b", "a", "c"), ("b", "a", "c", "c"),
            ("b", "a", "d"), ("b", "a", "c", "d"), ["b", "a", "c"], (("b", "a", "c"),), ("b", "a", ("c",)), ("b", "a", None),
            ("b", "a", b"c"), ("b", "a", ["c"]), ("b", "a", {}), "bac", "b", 0, 1, {"b": 0, "a": 1, "c": 2}, ("B", "a", "c"),
        ]
        for thing in wrong + odd_things():
            with self.subTest(kind=type(thing)):
                for _ in range(2):
                    with self.assertRaises(NoOrder):
                        number_of(ledger, thing)

    def test_orders_that_cannot_be(self):
        ledger = loose("ba", "c")
        for order in (("a", "b", "c"), ("a", "c", "b"), ("c", "a", "b")):
            with self.assertRaises(NoOrder):
                number_of(ledger, order)
        with self.assertRaises(NoOrder):
            number_of(two_rows(1, None), ("b", "a"))
        with self.assertRaises(NoOrder):
            number_of(one_house(0, 1, 0), ("a",))

    def test_what_is_refused_is_left_as_it_was(self):
        thing = ["b", "a", ["c"]]
        with self.assertRaises(NoOrder):
            number_of(loose("ba", "c"), thing)
        self.assertEqual(thing, ["b", "a", ["c"]])


class TestPlainOrder(unittest.TestCase):
    def test_by_least_moments_then_names(self):
        houses = (
            ("g", 0, 3, 9, ((("c", 5), ("a", 9)),)), ("h", 0, 1, 9, ((("b", 7), ("d", 8)),)), ("k", 0, 0, 9, ((("e", 2),),)),
        )
        self.assertEqual(earliest((houses, ())), (("a", 6), ("b", 6), ("c", 2), ("d", 7), ("e", 2)))
        self.assertEqual(plain_order((houses, ())), ("c", "e", "a", "b", "d"))

    def test_below_nought(self):
        self.assertEqual(plain_order(one_house(0, 0, 0, (("b", -9), ("a", -2)), (("c", 1),))), ("b", "a", "c"))

    def test_of_24_rows(self):
        chance = random.Random(44)
        for off in (0, 10 ** 9 - 200):
            ledger = full_ledger(chance, off)
            order = same_behind(self, plain_order, ledger)
            self.assertIsInstance(order, tuple)
            least = dict(earliest(ledger))
            self.assertEqual(sorted(order), list(rows_of(ledger)))
            self.assertEqual(list(order), sorted(order, key=lambda row: (least[row], row)))

    def test_of_big(self):
        least = dict(earliest(big()))
        self.assertEqual(plain_order(big()), tuple(sorted(least, key=lambda row: (least[row], row))))


if __name__ == "__main__":
    unittest.main()
