import random
import unittest

from skewbooks.chains import chain_of
from skewbooks.ledgers import is_placing, rows_of
from skewbooks.moments import chain_from, chain_to, earliest, latest, moments
from tests.helper import (
    all_placings, big, full_ledger, full_quarrel, no_rows, one_house, quarrels, refuses_quarrel, refuses_row, same_behind,
    small_ledger, two_rows,
)

OF_A_ROW = (moments, chain_to, chain_from)
OF_A_LEDGER = (earliest, latest)


def moved(ledger, by):
    """The ledger with all readings moved by a number."""
    houses = tuple(
        house[:4] + (tuple(tuple((row, reading + by) for row, reading in run) for run in house[4]),)
        for house in ledger[0]
    )
    return (houses, ledger[1])


class TestMoments(unittest.TestCase):
    def look_through(self, ledger):
        """Each row's moments are those of the two placings, each with its chain. Gives them by rows."""
        first, last = same_behind(self, earliest, ledger), same_behind(self, latest, ledger)
        self.assertTrue(is_placing(ledger, first))
        self.assertTrue(is_placing(ledger, last))
        told = {}
        for row in rows_of(ledger):
            told[row] = same_behind(self, moments, ledger, row)
            self.assertIsInstance(told[row], tuple)
            least, greatest = told[row]
            self.assertEqual((dict(first)[row], dict(last)[row]), (least, greatest))
            self.assertEqual(chain_of(ledger, same_behind(self, chain_to, ledger, row)), (None, row, least))
            self.assertEqual(chain_of(ledger, same_behind(self, chain_from, ledger, row)), (row, None, -greatest))
        return told

    def test_one_row(self):
        ledger = one_house(-2, 3, 0, (("x", 5),))
        self.assertEqual(self.look_through(ledger), {"x": (2, 7)})
        self.assertEqual(chain_to(ledger, "x"), (("early", "x"),))
        self.assertEqual(chain_from(ledger, "x"), (("late", "x"),))

    def test_by_hand(self):
        houses = (
            ("mill", -1, 2, 1, ((("x", 5), ("y", 7)),)),
            ("port", 0, 3, 0, ((("z", 9),),)),
        )
        self.assertEqual(self.look_through((houses, ())), {"x": (3, 6), "y": (5, 8), "z": (6, 9)})
        self.assertEqual(self.look_through((houses, (("x", "z", 5, None),))), {"x": (3, 4), "y": (5, 7), "z": (8, 9)})
        self.assertEqual(self.look_through((houses, (("z", "y", 1, None),))), {"x": (4, 6), "y": (7, 8), "z": (6, 7)})
        self.assertEqual(self.look_through((houses, (("x", "z", 1, 1),))), {"x": (5, 6), "y": (6, 8), "z": (6, 7)})

    def test_a_ledger_without_rows(self):
        ledger = one_house(0, 1, 0)
        self.assertEqual((earliest(ledger), latest(ledger)), ((), ()))

    def test_against_all_placings(self):
        chance = random.Random(21)
        many = 0
        for _ in range(300):
            ledger = small_ledger(chance, chance.choice([0.05, 0.3]))
            known = all_placings(ledger)
            if not known:
                continue
            told = self.look_through(ledger)
            for row in rows_of(ledger):
                times = [dict(placing)[row] for placing in known]
                self.assertEqual(told[row], (min(times), max(times)), (ledger, row))
            many += len(told) > 1
        self.assertGreater(many, 100)

    def test_ledgers_of_24_rows(self):
        chance = random.Random(22)
        for off in (0, 10 ** 9 - 200, 200 - 10 ** 9):
            for _ in range(2):
                self.assertEqual(len(self.look_through(full_ledger(chance, off))), 24)

    def test_each_row_once_in_a_chain(self):
        ledger = full_ledger(random.Random(23))
        for row in rows_of(ledger):
            for chain in (chain_to(ledger, row), chain_from(ledger, row)):
                self.assertLessEqual(len(chain), 24)

    def test_readings_moved(self):
        chance = random.Random(24)
        for ledger in [big()] + [full_ledger(chance)] + [small_ledger(chance) for _ in range(40)]:
            if len(rows_of(ledger)) < 6 and not all_placings(ledger):
                continue
            told = self.look_through(ledger)
            for by in (1, -7, 10 ** 8):
                self.assertEqual(
                    self.look_through(moved(ledger, by)),
                    {row: (least + by, greatest + by) for row, (least, greatest) in told.items()},
                )


class TestRefusals(unittest.TestCase):
    def test_quarrels(self):
        for _, ledger in quarrels() + [(None, full_quarrel(random.Random(25)))]:
            for deed in OF_A_LEDGER:
                refuses_quarrel(self, deed, ledger)
            for deed in OF_A_ROW:
                refuses_quarrel(self, deed, ledger, rows_of(ledger)[0])

    def test_quarrels_ahead_of_what_is_no_row(self):
        for _, ledger in quarrels():
            for deed in OF_A_ROW:
                for thing in (None, "nobody", True, 7, [], {}, ("x",)):
                    refuses_quarrel(self, deed, ledger, thing)

    def test_quarrels_by_chance(self):
        chance = random.Random(26)
        for _ in range(100):
            ledger = small_ledger(chance)
            if not all_placings(ledger):
                for deed in OF_A_LEDGER:
                    refuses_quarrel(self, deed, ledger)
                for deed in OF_A_ROW:
                    refuses_quarrel(self, deed, ledger, rows_of(ledger)[-1])

    def test_what_is_no_row(self):
        for deed in OF_A_ROW:
            for thing in no_rows():
                with self.subTest(kind=type(thing)):
                    refuses_row(self, deed, thing, big(), thing)
                    refuses_row(self, deed, thing, one_house(0, 1, 0), thing)
            for name in ("hb", "ha", "w", "early", "xy"):
                refuses_row(self, deed, name, big(), name)
            refuses_row(self, deed, "x", two_rows(1, None), "x")

    def test_a_refusal_changes_nothing(self):
        ledger, thing = big(), ["x", {"x": []}]
        before = moments(ledger, "x")
        refuses_row(self, moments, thing, ledger, thing)
        self.assertEqual((ledger, thing), (big(), ["x", {"x": []}]))
        self.assertEqual(moments(ledger, "x"), before)


if __name__ == "__main__":
    unittest.main()
