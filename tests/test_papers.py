import itertools
import random
import unittest

from skewbooks.checker import holds
from skewbooks.errors import NoHouse, NoOrder, NoWord
from skewbooks.ledgers import rows_of
from skewbooks.mends import mend
from skewbooks.moments import moments
from skewbooks.orders import orders
from skewbooks.pairs import apart, can_be
from skewbooks.papers import paper_apart, paper_mend, paper_moments, paper_order, paper_placed, paper_word
from tests.helper import (
    all_placings, big, check_ring, full_ledger, full_quarrel, is_so, no_rows, odd_things, one_house, quarrels,
    refuses_quarrel, refuses_row, same_behind, small_ledger, two_rows,
)

WORDS = ("ahead", "at once", "behind")


def numbers_changed(claim):
    """The claim with one of its numbers a little more or less."""
    for place, part in enumerate(claim):
        if isinstance(part, int):
            for by in (1, -1, 2, -2, 10 ** 9):
                yield claim[:place] + (part + by,) + claim[place + 1:]


def opposite(claim):
    """The claim that says the opposite; of claims of two numbers None."""
    pairs = (("placed", "quarrel"), ("can", "can't"), ("order", "no order"))
    for words in pairs:
        if claim[0] in words:
            return (words[1 - words.index(claim[0])],) + claim[1:]
    if claim[0] in ("mended", "never"):
        return ("never",) + claim[1:3] if claim[0] == "mended" else ("mended",) + claim[1:] + (1,)
    return None


class Papers(unittest.TestCase):
    def paper(self, deed, *things):
        """What is told: a true claim with a paper that the checker takes for it alone. Gives the claim."""
        told = same_behind(self, deed, *things)
        self.assertIsInstance(told, tuple)
        claim, paper = told
        self.assertEqual(claim[1], things[0])
        self.assertTrue(is_so(claim), claim)
        self.assertIs(holds(claim, paper), True, told)
        self.assertIs(holds(opposite(claim), paper), False)
        for changed in numbers_changed(claim):
            self.assertIs(holds(changed, paper), False, (changed, paper))
        return claim


class TestSmallLedgers(Papers):
    def test_placed_and_quarrel(self):
        chance = random.Random(71)
        seen = {"placed": 0, "quarrel": 0}
        for _ in range(200):
            ledger = small_ledger(chance)
            claim = self.paper(paper_placed, ledger)
            self.assertEqual(claim, ("placed" if all_placings(ledger) else "quarrel", ledger))
            if claim[0] == "quarrel":
                check_ring(self, ledger, paper_placed(ledger)[1])
            seen[claim[0]] += 1
        self.assertGreater(min(seen.values()), 40)

    def test_moments(self):
        for ledger, known in self.settled(72, 120):
            for row in rows_of(ledger):
                times = [placing[row] for placing in known]
                claim = self.paper(paper_moments, ledger, row)
                self.assertEqual(claim, ("moments", ledger, row, min(times), max(times)))

    def test_apart(self):
        for ledger, known in self.settled(73, 80):
            for row, other in itertools.product(rows_of(ledger), repeat=2):
                gaps = [placing[other] - placing[row] for placing in known]
                claim = self.paper(paper_apart, ledger, row, other)
                self.assertEqual(claim, ("apart", ledger, row, other, min(gaps), max(gaps)))
                if row == other:
                    self.assertEqual(paper_apart(ledger, row, other)[1][1::2], ((), ()))

    def test_words(self):
        seen = {}
        for ledger, known in self.settled(74, 80):
            for row, other in itertools.permutations(rows_of(ledger), 2):
                words = {
                    "ahead" if placing[row] < placing[other] else "behind" if placing[row] > placing[other] else "at once"
                    for placing in known
                }
                for word in WORDS:
                    claim = self.paper(paper_word, ledger, row, other, word)
                    self.assertEqual(claim, ("can" if word in words else "can't", ledger, row, other, word))
                    seen[(claim[0], word)] = seen.get((claim[0], word), 0) + 1
        self.assertTrue(len(seen) == 6 and min(seen.values()) > 20, seen)

    def test_orders(self):
        seen = {"order": 0, "no order": 0}
        for ledger, known in self.settled(75, 150):
            for order in itertools.permutations(rows_of(ledger)):
                can = any(all(one[row] <= one[later] for row, later in zip(order, order[1:])) for one in known)
                claim = self.paper(paper_order, ledger, order)
                self.assertEqual(claim, ("order" if can else "no order", ledger, order))
                seen[claim[0]] += 1
        self.assertGreater(min(seen.values()), 100)

    def test_mends(self):
        chance = random.Random(76)
        seen = {}
        for _ in range(150):
            ledger = small_ledger(chance, 0.4)
            for house in ledger[0]:
                claim = self.paper(paper_mend, ledger, house[0])
                told = mend(ledger, house[0])
                self.assertEqual(claim, told[:1] + (ledger, house[0]) + (told[1:2] if told[0] == "mended" else ()))
                seen[claim[0], claim[3:]] = seen.get((claim[0], claim[3:]), 0) + 1
        self.assertTrue({("never", ()), ("mended", (0,)), ("mended", (1,)), ("mended", (2,))} <= set(seen), seen)

    def settled(self, seed, many):
        """Small ledgers with all their placings, of which each has one."""
        chance = random.Random(seed)
        for _ in range(many):
            ledger = small_ledger(chance, chance.choice([0.05, 0.3]))
            known = [dict(placing) for placing in all_placings(ledger)]
            if known:
                yield ledger, known

    def test_the_paper_of_another_claim(self):
        ledger = big()
        told = [paper_placed(ledger)] + [paper_mend(ledger, house[0]) for house in ledger[0]]
        told += [paper_moments(ledger, row) for row in rows_of(ledger)]
        for row, other in itertools.permutations(rows_of(ledger), 2):
            told.append(paper_apart(ledger, row, other))
            told += [paper_word(ledger, row, other, word) for word in WORDS]
        told += [paper_order(ledger, order) for order in list(itertools.permutations(rows_of(ledger)))[::90]]
        for claim, paper in told:
            self.assertTrue(holds(claim, paper))
            for other, others in told:
                # A placing can show several things; a number of its own each claim of numbers has.
                if claim[0] in ("moments", "apart") and others != paper:
                    self.assertFalse(holds(claim, others), (claim, other))
                if holds(claim, others):
                    self.assertTrue(is_so(claim))


class TestByHand(Papers):
    def test_without_rows(self):
        empty = one_house(0, 0, 0)
        self.assertEqual(paper_placed(empty), (("placed", empty), ()))
        self.assertEqual(paper_order(empty, ()), (("order", empty, ()), ()))
        self.assertEqual(paper_mend(empty, "h"), (("mended", empty, "h", 0), ((), None)))
        for deed, asked in ((paper_placed, ()), (paper_order, ((),)), (paper_mend, ("h",))):
            self.paper(deed, empty, *asked)

    def test_forms(self):
        ledger = one_house(-2, 3, 0, (("x", 5),))
        first, last = (("x", 2),), (("x", 7),)
        paper = (first, (("early", "x"),), last, (("late", "x"),))
        self.assertEqual(paper_moments(ledger, "x"), (("moments", ledger, "x", 2, 7), paper))
        claim, paper = paper_apart(two_rows(2, 6), "a", "b")
        self.assertEqual(claim, ("apart", two_rows(2, 6), "a", "b", 2, 6))
        self.assertEqual(paper[1::2], ((("least", 0),), (("most", 0),)))
        self.assertEqual(paper_word(two_rows(2, 6), "b", "a", "ahead"), (
            ("can't", two_rows(2, 6), "b", "a", "ahead"), (("least", 0),),
        ))
        claim, ring = paper_order(two_rows(2, 6), ("b", "a"))
        self.assertEqual((claim, sorted(ring)), (("no order", two_rows(2, 6), ("b", "a")), [("along", 0), ("least", 0)]))

    def test_at_once_barred_either_way(self):
        ledger = two_rows(1, None)
        for row, other in (("a", "b"), ("b", "a")):
            claim = self.paper(paper_word, ledger, row, other, "at once")
            self.assertEqual(claim[0], "can't")
            self.assertEqual(paper_word(ledger, row, other, "at once")[1], (("least", 0),))

    def test_rows_that_are_surely_at_once(self):
        ledger = ((("g", 0, 0, 0, ((("a", 5),),)), ("h", 2, 2, 0, ((("b", 7),),))), ())
        for row, other in (("a", "b"), ("b", "a")):
            told = [self.paper(paper_word, ledger, row, other, word)[0] for word in WORDS]
            self.assertEqual(told, ["can't", "can", "can't"])

    def test_quarrels(self):
        for _, ledger in quarrels():
            claim, ring = paper_placed(ledger)
            self.assertEqual(claim, ("quarrel", ledger))
            check_ring(self, ledger, ring)
            self.paper(paper_placed, ledger)
            for house in ledger[0]:
                self.paper(paper_mend, ledger, house[0])

    def test_great_numbers(self):
        far = 10 ** 9
        houses = (("g", -far, -far, 0, ((("x", far),),)), ("h", far, far, 0, ((("y", -far),),)))
        self.assertEqual(self.paper(paper_mend, (houses, (("x", "y", far, far),)), "h")[3], 5 * far)
        self.assertEqual(self.paper(paper_moments, (houses, ()), "x")[3:], (2 * far, 2 * far))
        self.assertEqual(self.paper(paper_apart, (houses, ()), "x", "y")[4:], (-4 * far, -4 * far))
        for word in WORDS:
            self.assertEqual(self.paper(paper_word, (houses, ()), "x", "y", word)[0], "can" if word == "behind" else "can't")
        self.paper(paper_order, (houses, ()), ("x", "y"))
        self.paper(paper_order, (houses, ()), ("y", "x"))

    def test_24_rows(self):
        chance = random.Random(77)
        for off in (0, 10 ** 9 - 200):
            ledger = full_ledger(chance, off)
            self.paper(paper_placed, ledger)
            for row in chance.sample(rows_of(ledger), 3):
                self.assertEqual(self.paper(paper_moments, ledger, row)[3:], moments(ledger, row))
            for row, other in itertools.permutations(chance.sample(rows_of(ledger), 3), 2):
                self.assertEqual(self.paper(paper_apart, ledger, row, other)[4:], apart(ledger, row, other))
                for word in WORDS:
                    claim = self.paper(paper_word, ledger, row, other, word)
                    self.assertEqual(claim[0] == "can", word in can_be(ledger, row, other))
            torn = full_quarrel(chance, off)
            for house in torn[0]:
                self.paper(paper_mend, torn, house[0])


class TestOrders(Papers):
    def test_against_all_orders(self):
        ledger = big()
        known = set(orders(ledger))
        for order in itertools.permutations(rows_of(ledger)):
            claim, paper = paper_order(ledger, order)
            self.assertEqual(claim, ("order" if order in known else "no order", ledger, order))
            self.assertTrue(holds(claim, paper))

    def test_of_eight_rows_and_more(self):
        chance = random.Random(78)
        for many in (8, 9, 24):
            names = [chr(97 + place) for place in range(many)]
            ledger = (tuple(
                ("h" + house, 0, 3, 0, tuple(((row, 2 * names.index(row)),) for row in some))
                for house, some in (("a", names[::3]), ("b", names[1::3]), ("c", names[2::3]))
            ), ())
            self.assertEqual(self.paper(paper_order, ledger, tuple(names))[0], "order")
            for place in range(many - 1):
                # Moments are from 2 * place - 3 to 2 * place: neighbours can change places, those four apart can't.
                order = names[:place] + [names[place + 1], names[place]] + names[place + 2:]
                self.assertEqual(self.paper(paper_order, ledger, tuple(order))[0], "order")
            self.assertEqual(self.paper(paper_order, ledger, tuple(names[::-1]))[0], "no order")
            for _ in range(10):
                self.paper(paper_order, ledger, tuple(chance.sample(names, many)))

    def test_by_the_order_in_a_house(self):
        rows = tuple(((name, 0),) for name in "abcdefgh")
        ledger = one_house(-100, 100, 0, *rows)
        self.assertEqual(self.paper(paper_order, ledger, tuple("abcdefgh"))[0], "order")
        for place in range(7):
            order = list("abcdefgh")
            order[place:place + 2] = order[place:place + 2][::-1]
            self.assertEqual(self.paper(paper_order, ledger, tuple(order))[0], "no order")
        self.assertEqual(self.paper(paper_order, ledger, tuple("bcdefgha"))[0], "no order")

    def test_what_is_no_order(self):
        names = rows_of(big())
        wrong = odd_things() + [
            list(names), (), names[:-1], names[1:], names + names[:1], names[:-1] + names[:1], names[:-1] + ("w",),
            names + ("w",), names[:-1] + (None,), names[:-1] + ([],), names[:-1] + (names[-1:],), "".join(names),
            dict.fromkeys(names), set(names), 0, 7, names[:-1] + (names[-1] + " ",), (names,),
        ]
        for thing in wrong:
            with self.subTest(kind=type(thing)):
                for _ in range(2):
                    with self.assertRaises(NoOrder):
                        paper_order(big(), thing)
        for thing in odd_things():
            with self.assertRaises(NoOrder):
                paper_order(one_house(0, 0, 0), thing)
        with self.assertRaises(NoOrder):
            paper_order(one_house(0, 0, 0), ("x",))

    def test_quarrels_ahead_of_what_is_no_order(self):
        for _, ledger in quarrels() + [(None, full_quarrel(random.Random(79)))]:
            for order in (rows_of(ledger), rows_of(ledger)[::-1], (), None, [], ("w",), rows_of(ledger) * 2, {}, 7):
                refuses_quarrel(self, paper_order, ledger, order)


class TestRefusals(unittest.TestCase):
    def test_quarrels(self):
        for _, ledger in quarrels():
            first, last = rows_of(ledger)[0], rows_of(ledger)[-1]
            for row in (first, "nobody", None, [], {}):
                refuses_quarrel(self, paper_moments, ledger, row)
                for other in (last, first, None, "nobody", []):
                    refuses_quarrel(self, paper_apart, ledger, row, other)
                    for word in ("ahead", "first", None, []):
                        refuses_quarrel(self, paper_word, ledger, row, other, word)

    def test_what_is_no_row(self):
        for thing in no_rows():
            with self.subTest(kind=type(thing)):
                refuses_row(self, paper_moments, thing, big(), thing)
                refuses_row(self, paper_apart, thing, big(), thing, "x")
                refuses_row(self, paper_apart, thing, big(), "x", thing)
                refuses_row(self, paper_apart, thing, big(), thing, None)
                for word in ("ahead", "first", None):
                    refuses_row(self, paper_word, thing, big(), thing, "x", word)
                    refuses_row(self, paper_word, thing, big(), "x", thing, word)
                    refuses_row(self, paper_word, thing, big(), thing, "nobody", word)

    def test_words(self):
        for word in odd_things() + [0, 1, "Ahead", "first", " ahead", "at  once", ("ahead",), ["ahead"], b"ahead"]:
            with self.assertRaises(NoWord):
                paper_word(big(), "x", "p", word)
        for word in WORDS + ("first", None):
            with self.assertRaises(NoWord):
                paper_word(big(), "x", "x", word)

    def test_houses(self):
        for ledger in (big(), quarrels()[0][1]):
            for thing in odd_things() + [0, 1, "x", "y", "nobody", ("hb",), ["hb"], b"hb"]:
                for _ in range(2):
                    with self.assertRaises(NoHouse):
                        paper_mend(ledger, thing)


if __name__ == "__main__":
    unittest.main()
