import random
import unittest

from skewbooks.bounds import leads
from skewbooks.errors import NoHouse
from skewbooks.ledgers import is_ledger, is_placing
from skewbooks.mends import least_mend, mend
from tests.helper import (
    all_placings, big, can_keep, check_ring, full_ledger, full_quarrel, odd_things, one_house, put, quarrels,
    same_behind,
    small_ledger, two_rows, wider,
)

FAR = 10 ** 9


def shifted(ledger, by):
    """The ledger with all readings of its first house moved by a number."""
    first = ledger[0][0]
    runs = tuple(tuple((row, reading + by) for row, reading in run) for run in first[4])
    return put(ledger, (0, 0, 4), runs)


def gap_ledger(gap, clocks=((0, 0), (0, 0)), letter=("x", "y", 1, 5)):
    """Two houses with a row each, the readings so much apart, and a letter between them."""
    (low, high), (least, most) = clocks
    return ((("g", low, high, 0, ((("x", 0),),)), ("h", least, most, 0, ((("y", gap),),))), (letter,))


def spare_letters():
    """A ledger that quarrels by letters alone, with a house that has no rows."""
    ledger = quarrels()[6][1]
    return (ledger[0] + (("k", 0, 0, 0, ()),), ledger[1])


class TestMend(unittest.TestCase):
    def answer(self, ledger, house):
        """What is told of the ledger and the house, looked through. Gives k, or None for never."""
        self.assertTrue(is_ledger(ledger))
        told = same_behind(self, mend, ledger, house)
        self.assertIsInstance(told, tuple)
        self.assertIn(told[0], ("mended", "never"))
        if told[0] == "never":
            _, ring = told
            check_ring(self, ledger, ring)
            own = {row for name, _, _, _, runs in ledger[0] if name == house for run in runs for row, _ in run}
            self.assertEqual([bound for bound in ring if bound[0] in ("early", "late") and bound[1] in own], [])
            return None
        _, more, placing, ring = told
        self.assertTrue(more.__class__ is int and more >= 0)
        self.assertTrue(is_placing(wider(ledger, house, more), placing))
        if more == 0:
            self.assertIsNone(ring)
        else:
            check_ring(self, wider(ledger, house, more - 1), ring)
        return more

    def test_nothing_to_mend(self):
        for ledger in (big(), two_rows(1, None), one_house(0, 0, 0), full_ledger(random.Random(51))):
            for house in ledger[0]:
                self.assertEqual(self.answer(ledger, house[0]), 0)
        self.assertEqual(mend(one_house(0, 0, 0), "h"), ("mended", 0, (), None))

    def test_each_k_by_one_bound(self):
        # The letter takes from 1 to 5, the clocks are right: each house must be off by as much as is wanting.
        for gap in range(-8, 15):
            need = max(0, 1 - gap, gap - 5)
            self.assertEqual(self.answer(gap_ledger(gap), "g"), need)
            self.assertEqual(self.answer(gap_ledger(gap), "h"), need)

    def test_each_k_by_two_bounds(self):
        # Two runs of one house whose readings fall: both the first and the last row give way.
        for fall in range(-3, 12):
            ledger = one_house(0, 0, 0, (("x", fall),), (("y", 0),))
            self.assertEqual(self.answer(ledger, "h"), max(0, (fall + 2) // 2))

    def test_low_and_high_count(self):
        ledger = gap_ledger(-20, ((-2, 3), (-4, 7)))
        # The letter asks for 21 more; x may be 3 earlier, y 4 later.
        self.assertEqual(self.answer(ledger, "g"), 21 - 7)
        self.assertEqual(self.answer(ledger, "h"), 21 - 7)
        ledger = gap_ledger(20, ((-2, 3), (-4, 7)))
        self.assertEqual(self.answer(ledger, "g"), 15 - 9)
        self.assertEqual(self.answer(ledger, "h"), 15 - 9)

    def test_great_numbers(self):
        for gap in (FAR - 1, FAR, -FAR, FAR - 10 ** 6):
            self.assertEqual(self.answer(gap_ledger(gap), "g"), max(1 - gap, gap - 5))
        houses = (("g", -FAR, -FAR, 0, ((("x", FAR),),)), ("h", FAR, FAR, 0, ((("y", -FAR),),)))
        for house in ("g", "h"):
            self.assertEqual(self.answer((houses, (("x", "y", FAR, FAR),)), house), 5 * FAR)
        ledger = one_house(0, 0, 0, (("x", FAR),), (("y", -FAR),))
        self.assertEqual(self.answer(ledger, "h"), FAR + 1)
        ledger = one_house(-FAR, -FAR, 0, (("x", FAR), ("y", FAR + 1)), (("z", -FAR),))
        self.assertEqual(self.answer(ledger, "h"), FAR + 1)

    def test_a_clock_that_helps_nobody(self):
        wide = ("g", -FAR, FAR, 0, ((("p", 0),),))
        fall = ("h", 0, 0, 0, ((("x", 5),), (("y", 5),)))
        for houses in ((wide, fall), (fall, wide)):
            self.assertIsNone(self.answer((houses, ()), "g"))
            self.assertEqual(self.answer((houses, ()), "h"), 1)

    def test_never_by_letters_and_drift(self):
        for words, ledger in quarrels():
            for house in ledger[0]:
                more = self.answer(ledger, house[0])
                if words in (("slow", "most"), ("fast", "least"), ("next", "least")):
                    self.assertIsNone(more, words)
                else:
                    self.assertGreater(more, 0, words)

    def test_a_house_without_rows(self):
        self.assertEqual(self.answer(big(), "hc"), 0)
        for _, ledger in quarrels():
            self.assertIsNone(self.answer((ledger[0] + (("k", 0, 5, 0, ()),), ledger[1]), "k"))

    def test_mended_by_one_house_never_by_the_others(self):
        chance = random.Random(52)
        for by in (40, -40, 5000, FAR, -FAR):
            for _ in range(4):
                ledger = shifted(full_ledger(chance), by)
                needs = [self.answer(ledger, house[0]) for house in ledger[0]]
                self.assertGreater(needs[0], abs(by) - 40)
        ledger = full_quarrel(chance)
        self.assertEqual({self.answer(ledger, house[0]) for house in ledger[0]}, {None})

    def test_against_each_k_one_by_one(self):
        chance = random.Random(53)
        seen = {}
        for _ in range(250):
            ledger = small_ledger(chance, chance.choice([0.1, 0.3, 0.5]))
            for house in ledger[0]:
                more = self.answer(ledger, house[0])
                tried = range(12) if more is None else range(more + 1)
                known = [can_keep(wider(ledger, house[0], k)) for k in tried]
                self.assertEqual(known, [False] * 12 if more is None else [False] * more + [True])
                seen[more] = seen.get(more, 0) + 1
        self.assertTrue(all(seen[more] > 10 for more in (None, 0, 1, 2, 3)), seen)

    def test_against_all_placings(self):
        chance = random.Random(54)
        for _ in range(60):
            ledger = small_ledger(chance)
            for house in ledger[0]:
                more = self.answer(ledger, house[0])
                if more is None:
                    self.assertEqual(all_placings(wider(ledger, house[0], 1)), [])
                elif more < 3:
                    self.assertNotEqual(all_placings(wider(ledger, house[0], more)), [])
                    self.assertTrue(more == 0 or all_placings(wider(ledger, house[0], more - 1)) == [])

    def test_the_ring_is_not_of_the_ledger_itself(self):
        # With k - 1 another ring quarrels than with 0.
        houses = (("g", 0, 0, 0, ((("x", 0),), (("y", -5),))), ("h", 0, 0, 0, ((("z", -5),),)))
        ledger = (houses, (("x", "z", 1, None),))
        self.assertEqual(self.answer(ledger, "g"), 6)
        _, _, _, ring = mend(ledger, "g")
        self.assertEqual(sum(leads(wider(ledger, "g", 5), bound)[2] for bound in ring), 1)


class TestNoHouse(unittest.TestCase):
    def test_what_is_no_house(self):
        names = [0, 1, -1, "x", "y", "h", "hbb", "HB", "hb ", " hb", "house", "abcdefghi", ("hb",), ["hb"], {"hb": 1}, b"hb"]
        for ledger in (big(), quarrels()[0][1], quarrels()[6][1]):
            for thing in odd_things() + names:
                if ledger != big() and isinstance(thing, str) and thing == "h":
                    continue
                with self.subTest(kind=type(thing)):
                    for _ in range(2):
                        with self.assertRaises(NoHouse):
                            mend(ledger, thing)

    def test_a_refusal_changes_nothing(self):
        ledger, thing = gap_ledger(9), ["g", {"h": []}]
        before = mend(ledger, "g")
        with self.assertRaises(NoHouse):
            mend(ledger, thing)
        self.assertEqual((ledger, thing), (gap_ledger(9), ["g", {"h": []}]))
        self.assertEqual(mend(ledger, "g"), before)


class TestLeastMend(unittest.TestCase):
    def test_where_there_is_a_placing(self):
        self.assertEqual(least_mend(big()), ("ha", 0))
        self.assertEqual(least_mend(one_house(0, 0, 0)), ("h", 0))
        houses = tuple((name, 0, 0, 0, ()) for name in ("mill", "port", "bb", "b", "ba", "quay"))
        self.assertEqual(least_mend((houses, ())), ("b", 0))

    def test_of_several_the_least_name(self):
        ledger = gap_ledger(9)
        self.assertEqual((mend(ledger, "g")[1], mend(ledger, "h")[1]), (4, 4))
        self.assertEqual(least_mend(ledger), ("g", 4))
        self.assertEqual(least_mend((ledger[0][::-1], ledger[1])), ("g", 4))

    def test_the_least_name_of_those_that_are_mended(self):
        wide = ("a", -FAR, FAR, 0, ((("p", 0),),))
        ledger = gap_ledger(9)
        for houses in ((wide,) + ledger[0], ledger[0] + (wide,)):
            self.assertEqual(mend((houses, ledger[1]), "a")[0], "never")
            self.assertEqual(least_mend((houses, ledger[1])), ("g", 4))
        # Both rows of b give way: its clock needs half as much, and no other clock helps.
        fall = ("b", 0, 0, 0, ((("x", 9),), (("y", 0),)))
        self.assertEqual(least_mend(((wide, fall), ())), ("b", 5))

    def test_none_is_mended(self):
        self.assertIsNone(least_mend(spare_letters()))
        self.assertIsNone(least_mend(full_quarrel(random.Random(55))))

    def test_against_mend_of_all_houses(self):
        chance = random.Random(56)
        seen = set()
        for _ in range(300):
            ledger = small_ledger(chance, chance.choice([0.1, 0.3, 0.5]))
            told = [mend(ledger, house[0]) + (house[0],) for house in ledger[0]]
            needs = sorted((one[1], one[-1]) for one in told if one[0] == "mended")
            answer = same_behind(self, least_mend, ledger)
            self.assertEqual(answer, needs[0][::-1] if needs else None)
            self.assertIsInstance(answer, (tuple, type(None)))
            seen.add((len(needs), len(ledger[0]), answer is not None and answer[1] > 0))
        self.assertTrue({(0, 2, False), (1, 2, True), (2, 2, True), (2, 3, True), (3, 3, False)} <= seen, seen)

    def test_great_numbers(self):
        self.assertEqual(least_mend(gap_ledger(FAR)), ("g", FAR - 5))
        houses = (("g", -FAR, -FAR, 0, ((("x", FAR),),)), ("h", FAR, FAR, 0, ((("y", -FAR),),)))
        self.assertEqual(least_mend((houses, (("x", "y", FAR, FAR),))), ("g", 5 * FAR))


if __name__ == "__main__":
    unittest.main()
