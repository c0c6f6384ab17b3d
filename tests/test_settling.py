import random
import unittest

from skewbooks.bounds import bounds_of, leads
from skewbooks.chains import chain_of, is_bare
from skewbooks.ledgers import is_ledger, is_placing, rows_of
from skewbooks.settling import placed
from tests.helper import (
    all_placings, big, check_ring, full_ledger, full_quarrel, one_house, quarrels, same_behind, small_ledger, two_rows,
)

FAR = 10 ** 9


class TestPlaced(unittest.TestCase):
    def answer(self, ledger):
        """What is told of the ledger, looked through: a placing that is one, or a ring that bars all."""
        self.assertTrue(is_ledger(ledger))
        told = same_behind(self, placed, ledger)
        self.assertIsInstance(told, tuple)
        word, shown = told
        self.assertIn(word, ("placing", "quarrel"))
        if word == "placing":
            self.assertTrue(is_placing(ledger, shown))
        else:
            check_ring(self, ledger, shown)
            start, end, more = chain_of(ledger, shown)
            self.assertEqual(start, end)
            self.assertGreaterEqual(more, 1)
            self.assertTrue(is_bare(ledger, shown))
        return told

    def test_a_placing(self):
        self.assertEqual(self.answer(big())[0], "placing")
        self.assertEqual(self.answer(two_rows(1, None))[0], "placing")
        self.assertEqual(self.answer(one_house(0, 0, 0, (("x", 5), ("y", 6)))), ("placing", (("x", 5), ("y", 6))))

    def test_without_rows(self):
        self.assertEqual(self.answer(one_house(0, 0, 0)), ("placing", ()))
        self.assertEqual(self.answer(((("g", -1, 1, 0, ()), ("h", 5, 9, 2, ())), ())), ("placing", ()))

    def test_quarrels_by_each_kind_of_bounds(self):
        seen = set()
        for words, ledger in quarrels():
            with self.subTest(words):
                told, ring = self.answer(ledger)
                self.assertEqual(told, "quarrel")
                self.assertLessEqual(set(words), {bound[0] for bound in ring})
                seen.update(words)
        self.assertEqual(seen, {"early", "late", "next", "slow", "fast", "least", "most"})

    def test_one_less_and_there_is_a_placing(self):
        def four(gap, most):
            houses = (("g", 0, 0, 0, ((("a", 3),),)), ("h", 0, 0, 0, ((("b", 3 + gap),),)))
            return self.answer((houses, (("a", "b", 2, most),)))[0]
        self.assertEqual([four(gap, 4) for gap in range(7)], ["quarrel"] * 2 + ["placing"] * 3 + ["quarrel"] * 2)
        self.assertEqual([four(gap, None) for gap in range(7)], ["quarrel"] * 2 + ["placing"] * 5)

    def test_next_between_runs(self):
        for reading, word in ((3, "quarrel"), (4, "quarrel"), (5, "quarrel"), (6, "placing"), (7, "placing")):
            ledger = one_house(0, 0, 0, (("x", 5),), (("y", reading),))
            self.assertEqual(self.answer(ledger)[0], word)

    def test_drift(self):
        def held(drift, least, most):
            houses = (
                ("g", -FAR, FAR, drift, ((("x", 0), ("y", 10)),)),
                ("h", -FAR, FAR, 0, ((("p", 0),),)),
            )
            return self.answer((houses, (("p", "y", least, most), ("x", "p", 1, 1))))[0]
        for most in range(1, 12):
            self.assertEqual(held(3, 1, most), "placing" if most + 1 >= 7 else "quarrel")
        for least in range(1, 16):
            self.assertEqual(held(3, least, None), "placing" if least + 1 <= 13 else "quarrel")

    def test_against_all_placings(self):
        chance = random.Random(11)
        seen = {"placing": 0, "quarrel": 0}
        for _ in range(400):
            ledger = small_ledger(chance)
            word, shown = self.answer(ledger)
            known = all_placings(ledger)
            self.assertEqual(word, "placing" if known else "quarrel", ledger)
            if known:
                self.assertIn(shown, known)
            if rows_of(ledger):
                seen[word] += 1
        self.assertGreater(min(seen.values()), 80)

    def test_ledgers_of_24_rows_with_24_letters(self):
        chance = random.Random(12)
        for off in (0, FAR - 200, 200 - FAR):
            for _ in range(10):
                ledger = full_ledger(chance, off)
                self.assertEqual((len(rows_of(ledger)), len(ledger[1])), (24, 24))
                self.assertEqual(self.answer(ledger)[0], "placing")
                ledger = full_quarrel(chance, off)
                self.assertEqual((len(rows_of(ledger)), len(ledger[1])), (24, 24))
                self.assertEqual(self.answer(ledger)[0], "quarrel")

    def test_a_ring_through_all_rows(self):
        run = tuple((chr(97 + k),) for k in range(12))
        other = tuple((chr(109 + k),) for k in range(12))
        houses = (
            ("g", -FAR, FAR, 0, tuple(((name, 0),) for name, in run)),
            ("h", -FAR, FAR, 0, tuple(((name, 0),) for name, in other)),
        )
        ledger = (houses, (("l", "m", 1, None), ("x", "a", 1, None)))
        word, ring = self.answer(ledger)
        self.assertEqual((word, len(ring)), ("quarrel", 24))
        ledger = (houses, (("a", "x", 1, 23), ("l", "m", 1, None)))
        self.assertEqual(self.answer(ledger)[0], "placing")
        ledger = (houses, (("a", "x", 1, 22), ("l", "m", 1, None)))
        word, ring = self.answer(ledger)
        self.assertEqual((word, len(ring)), ("quarrel", 24))

    def test_a_chain_through_all_rows(self):
        # Each letter is taken by the row with the name below, so the bounds rise against the way of the chain.
        names = [chr(97 + k) for k in range(24)][::-1]
        houses = (
            ("g", -FAR, FAR, 0, tuple(((name, 0),) for name in names[::2])),
            ("h", -FAR, FAR, 0, tuple(((name, 0),) for name in names[1::2])),
        )
        letters = tuple(sorted((sent, taken, 10, None) for sent, taken in zip(names, names[1:])))
        word, placing = self.answer((houses, letters))
        self.assertEqual(word, "placing")
        self.assertGreaterEqual(dict(placing)["a"] - dict(placing)["x"], 230)
        self.assertEqual(self.answer((houses, letters[:22] + (("x", "a", 1, 230),) + letters[22:]))[0], "placing")
        word, ring = self.answer((houses, letters[:22] + (("x", "a", 1, 229),) + letters[22:]))
        self.assertEqual((word, len(ring)), ("quarrel", 24))

    def test_clocks_off_by_nearly_all_that_can_be(self):
        def two(gap):
            houses = (
                ("g", FAR - 1, FAR, 0, ((("a", FAR),),)),
                ("h", -FAR, 1 - FAR, 0, ((("b", gap - FAR),),)),
            )
            return self.answer((houses, (("a", "b", 7, 9),)))[0]
        told = [two(gap) for gap in range(16)]
        self.assertEqual(told, ["quarrel"] * 7 + ["placing"] * 5 + ["quarrel"] * 4)

    def test_great_sums(self):
        houses = (("g", -FAR, -FAR, 0, ((("a", FAR),),)), ("h", FAR, FAR, 0, ((("b", -FAR),),)))
        self.assertEqual(self.answer((houses, ())), ("placing", (("a", 2 * FAR), ("b", -2 * FAR))))
        word, ring = self.answer((houses, (("a", "b", FAR, FAR),)))
        self.assertEqual(chain_of((houses, (("a", "b", FAR, FAR),)), ring)[2], 5 * FAR)

    def test_the_placing_keeps_to_all_bounds(self):
        ledger = big()
        moments = dict(placed(ledger)[1])
        moments[None] = 0
        for bound in bounds_of(ledger):
            start, end, more = leads(ledger, bound)
            self.assertGreaterEqual(moments[end] - moments[start], more, bound)


if __name__ == "__main__":
    unittest.main()
