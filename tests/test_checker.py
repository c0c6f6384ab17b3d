import ast
import os
import random
import unittest

from skewbooks.bounds import bounds_of, leads
from skewbooks.checker import holds
from skewbooks.ledgers import is_ledger
from skewbooks.settling import placed
from tests.helper import (
    all_placings, at, full_quarrel, is_so, nest, odd_things, one_house, paths_in, put, quarrels, same_behind,
    small_ledger,
    two_rows, wider,
)

PACKAGE = os.path.join(os.path.dirname(os.path.dirname(os.path.abspath(__file__))), "skewbooks")
LATER = ("settling", "moments", "pairs", "orders", "lettersalone", "keepers", "merges", "mends")
WORDS = ("ahead", "at once", "behind")

# x from 3 to 5, y from 6 to 8, z from 6 to 9; y is 2 to 4 behind x, z 2 or more.
CALM = (
    (("g", 0, 2, 1, ((("x", 5), ("y", 8)),)), ("h", 0, 3, 0, ((("z", 9),),))),
    (("x", "z", 2, None),),
)
EARLY, LATE = (("x", 3), ("y", 6), ("z", 6)), (("x", 5), ("y", 8), ("z", 9))
# The clocks are right, and the letter would have to be taken 1 later.
TORN = ((("g", 0, 0, 0, ((("x", 3),),)), ("h", 0, 0, 0, ((("y", 3),),))), (("x", "y", 1, 5),))
RING = (("early", "x"), ("least", 0), ("late", "y"))
# No clock helps: by letters alone x is behind p, p behind y, and y behind x.
LOOP = quarrels()[6][1]
LOOP_RING = (("next", "x", "y"), ("least", 1), ("least", 0))
# The clock of g alone is at fault, that of h has nothing to do with it.
FALL = ((("g", 0, 0, 0, ((("x", 5),), (("y", 5),))), ("h", 0, 0, 0, ((("z", 0),),))), ())
FALL_RING = (("early", "x"), ("next", "x", "y"), ("late", "y"))


def samples():
    """Claims that are so, each with its paper."""
    return [
        (("placed", CALM), EARLY),
        (("quarrel", TORN), RING),
        (("moments", CALM, "x", 3, 5), (EARLY, (("early", "x"),), LATE, (("late", "x"),))),
        (("moments", CALM, "z", 6, 9), (EARLY, (("early", "z"),), LATE, (("late", "z"),))),
        (("apart", CALM, "x", "y", 2, 4), (
            (("x", 4), ("y", 6), ("z", 6)), (("slow", "x", "y"),), (("x", 4), ("y", 8), ("z", 9)),
            (("fast", "x", "y"),),
        )),
        (("apart", CALM, "z", "y", -3, 2), (
            (("x", 3), ("y", 6), ("z", 9)), (("late", "z"), ("early", "y")), (("x", 4), ("y", 8), ("z", 6)),
            (("late", "y"), ("early", "z")),
        )),
        (("apart", CALM, "y", "y", 0, 0), (EARLY, (), LATE, ())),
        (("can", CALM, "y", "z", "at once"), EARLY),
        (("can", CALM, "y", "z", "ahead"), LATE),
        (("can", CALM, "z", "y", "behind"), LATE),
        (("can't", CALM, "x", "z", "behind"), (("least", 0),)),
        (("can't", CALM, "z", "x", "ahead"), (("least", 0),)),
        (("can't", CALM, "z", "x", "at once"), (("least", 0),)),
        (("can't", TORN, "x", "y", "ahead"), RING),
        (("order", CALM, ("x", "y", "z")), EARLY),
        (("order", CALM, ("x", "z", "y")), EARLY),
        (("no order", CALM, ("y", "x", "z")), (("slow", "x", "y"), ("along", 0))),
        (("no order", CALM, ("y", "z", "x")), (("slow", "x", "y"), ("along", 0), ("along", 1))),
        (("mended", CALM, "h", 0), (EARLY, None)),
        (("mended", TORN, "g", 1), ((("x", 2), ("y", 3)), RING)),
        (("never", LOOP, "g"), LOOP_RING),
        (("never", FALL, "h"), FALL_RING),
    ]


def drawn_by(name):
    """The modules of the package from which a module draws, in however many steps."""
    with open(os.path.join(PACKAGE, name + ".py"), encoding="utf-8") as file:
        tree = ast.parse(file.read())
    drawn = set()
    for node in ast.walk(tree):
        if isinstance(node, (ast.Import, ast.ImportFrom)):
            module = node.module.removeprefix("skewbooks.")
            drawn |= {module} | drawn_by(module)
    return drawn


class Checked(unittest.TestCase):
    def takes(self, claim, paper):
        self.assertIs(same_behind(self, holds, claim, paper), True, (claim, paper))
        self.assertTrue(is_so(claim), claim)

    def refuses(self, claim, paper):
        self.assertIs(same_behind(self, holds, claim, paper), False, (claim, paper))

    def only_what_is_so(self, claim, paper):
        """Whether it is taken; then the claim is so."""
        answer = holds(claim, paper)
        self.assertIn(answer, (True, False))
        if answer:
            self.assertTrue(is_ledger(claim[1]))
            self.assertTrue(is_so(claim), (claim, paper))
        return answer


class TestSamples(Checked):
    def test_all_words_are_taken(self):
        for claim, paper in samples():
            self.takes(claim, paper)
        self.assertEqual(len({claim[0] for claim, _ in samples()}), 10)

    def each_part(self, change):
        """Each sample with one part, of the claim or of the paper, changed."""
        for whole in samples():
            for path in paths_in(whole)[1:]:
                yield whole, path, put(whole, path, change(at(whole, path)))

    def test_a_list_for_a_tuple(self):
        for whole, path, spoilt in self.each_part(lambda part: list(part) if isinstance(part, tuple) else [part]):
            self.refuses(*spoilt)

    def test_a_dict_for_a_part(self):
        for whole, path, spoilt in self.each_part(lambda part: {0: part}):
            self.refuses(*spoilt)

    def test_a_text_for_a_part(self):
        for whole, path, spoilt in self.each_part(lambda part: part + " " if isinstance(part, str) else str(part)):
            self.refuses(*spoilt)
        for whole, path, spoilt in self.each_part(lambda part: ""):
            self.refuses(*spoilt)

    def test_a_truth_for_a_part(self):
        for truth in (True, False):
            for whole, path, spoilt in self.each_part(lambda part: truth):
                self.refuses(*spoilt)

    def test_none_for_a_part(self):
        for whole, path, spoilt in self.each_part(lambda part: None):
            if at(whole, path) is not None and path[:3] != (0, 1, 1):
                self.refuses(*spoilt)

    def test_a_part_within_a_tuple(self):
        for whole, path, spoilt in self.each_part(lambda part: (part,)):
            self.refuses(*spoilt)

    def test_a_part_left_out(self):
        for whole in samples():
            for path in paths_in(whole)[1:]:
                outer = at(whole, path[:-1])
                shorter = outer[:path[-1]] + outer[path[-1] + 1:]
                if len(path) > 1:
                    taken = self.only_what_is_so(*put(whole, path[:-1], shorter))
                    # What may be left out is a house, a run, a row or a letter that has no part in it.
                    self.assertTrue(not taken or path[:2] == (0, 1), (whole, path))

    def test_a_part_once_more(self):
        for whole in samples():
            for path in paths_in(whole)[1:]:
                outer = at(whole, path[:-1])
                longer = outer[:path[-1]] + (at(whole, path),) + outer[path[-1]:]
                if len(path) > 1:
                    self.assertFalse(holds(*put(whole, path[:-1], longer)), (whole, path))
            claim, paper = whole
            self.refuses(claim + (None,), paper)
            self.refuses(claim + ((),), paper)
            self.refuses(claim, (paper, paper))

    def test_another_number(self):
        changed = 0
        for whole, path, spoilt in self.each_part(lambda part: part):
            if isinstance(at(whole, path), int):
                for by in (1, -1, 2, -2, 10 ** 9, -10 ** 9):
                    other = put(whole, path, at(whole, path) + by)
                    taken = self.only_what_is_so(*other)
                    changed += not taken
                    if path[:2] != (0, 1) and path[0] == 0:
                        self.assertFalse(taken)
        self.assertGreater(changed, 300)

    def test_another_name(self):
        for whole, path, spoilt in self.each_part(lambda part: part):
            if isinstance(at(whole, path), str):
                for name in (
                    "x", "y", "z", "g", "h", "w", "early", "late", "next", "slow", "fast", "least", "most", "along",
                ):
                    if name != at(whole, path):
                        self.only_what_is_so(*put(whole, path, name))

    def test_the_paper_of_another_claim(self):
        known = samples()
        for claim, paper in known:
            for other, others in known:
                if others != paper:
                    taken = self.only_what_is_so(claim, others)
                    self.assertTrue(not taken or claim[0] in ("placed", "can", "can't", "order"), (claim, other))

    def test_another_word(self):
        for claim, paper in samples():
            for word in (
                "placed", "quarrel", "moments", "apart", "can", "can't", "order", "no order", "mended", "never",
            ):
                if word != claim[0]:
                    self.refuses((word,) + claim[1:], paper)
            for word in (
                "Placed", "cant", "cannot", "can not", "noorder", "no  order", "mend", "holds", claim[0] + "\n",
            ):
                self.refuses((word,) + claim[1:], paper)

    def test_another_ledger(self):
        for claim, paper in samples():
            for ledger in (
                CALM, TORN, LOOP, FALL, one_house(0, 0, 0), two_rows(1, 2), (), ((), ()), (CALM[0],), CALM + ((),),
            ):
                if ledger != claim[1]:
                    taken = self.only_what_is_so(claim[:1] + (ledger,) + claim[2:], paper)
                    self.assertFalse(taken, (claim, ledger))


class TestAnyKind(Checked):
    def test_claims_and_papers_of_any_kind(self):
        things = odd_things() + [0, 1, -1, 10 ** 9, "placed", ("placed",), ("quarrel",), nest(10, "x"), nest(10, CALM)]
        for thing in things:
            with self.subTest(kind=type(thing)):
                for other in (None, (), EARLY, [], {}, thing):
                    self.assertIs(holds(thing, other), False)
                for claim, _ in samples():
                    self.assertIs(holds(claim, thing), False)

    def test_parts_of_any_kind(self):
        for thing in odd_things() + [nest(10, 1), {"x": [{}]}, [[["x"]]], ("x", 30), -5, "xx"]:
            for claim, paper in samples():
                for place in range(len(claim)):
                    self.assertIs(holds(put(claim, (place,), thing), paper), False)
                for place in range(len(paper)):
                    if at(paper, (place,)) is not None or thing is not None:
                        self.assertIs(holds(claim, put(paper, (place,), thing)), False)
                    if isinstance(paper[place], tuple) and paper[place]:
                        self.assertIs(holds(claim, put(paper, (place, 0), thing)), False)

    def test_ten_deep(self):
        deep = None
        for turn in range(10):
            deep = [(deep,), [deep], {"x": deep}, ("placed", deep)][turn % 4]
            self.assertIs(holds(deep, deep), False)
            for claim, paper in samples():
                self.assertIs(holds(claim, deep), False)
                self.assertIs(holds((claim[0], deep) + claim[2:], paper), False)

    def test_what_is_handed_in_is_the_same(self):
        claim, paper = ["placed", [CALM]], [list(EARLY), {"x": []}]
        self.refuses(claim, paper)
        self.assertEqual((claim, paper), (["placed", [CALM]], [list(EARLY), {"x": []}]))


class TestPlacedAndQuarrel(Checked):
    def test_all_placings_and_no_others(self):
        known = all_placings(CALM)
        self.assertGreater(len(known), 10)
        for placing in known:
            self.takes(("placed", CALM), placing)
        for placing in (LATE[::-1], LATE[:2], LATE + LATE[2:], EARLY + (("w", 1),), (("x", 2),) + EARLY[1:], (), None):
            self.refuses(("placed", CALM), placing)

    def test_without_rows(self):
        empty = one_house(0, 0, 0)
        self.takes(("placed", empty), ())
        self.takes(("order", empty, ()), ())
        self.takes(("mended", empty, "h", 0), ((), None))
        self.refuses(("placed", empty), None)
        self.refuses(("quarrel", empty), ())
        self.refuses(("no order", empty, ()), ())
        self.refuses(("never", empty, "h"), ())

    def test_rings(self):
        for turn in range(3):
            self.takes(("quarrel", TORN), RING[turn:] + RING[:turn])
        self.takes(("quarrel", TORN), RING * 2)
        self.takes(("quarrel", TORN), RING * 16)
        self.takes(("quarrel", TORN), (("early", "x"), ("late", "x")) * 3 + RING)
        self.refuses(("quarrel", TORN), RING[:2])
        self.refuses(("quarrel", TORN), RING[::-1])
        self.refuses(("quarrel", TORN), (("early", "x"), ("late", "x")))
        self.refuses(("quarrel", TORN), RING + (("early", "x"),))
        self.refuses(("quarrel", TORN), RING + (("along", 0),))
        self.refuses(("quarrel", CALM), (("early", "x"), ("late", "x")))

    def test_a_sum_just_enough_and_one_too_small(self):
        for least, word in ((1, False), (2, True), (3, True)):
            ledger = put(put(TORN, (1, 0, 2), least), (0, 1, 4, 0, 0, 1), 4)
            self.assertIs(holds(("quarrel", ledger), RING), word)

    def test_quarrels_by_each_kind_of_bounds(self):
        for _, ledger in quarrels() + [(None, full_quarrel(random.Random(61)))]:
            word, ring = placed(ledger)
            self.takes((word, ledger), ring)
            for place in range(len(ring)):
                self.refuses((word, ledger), ring[:place] + ring[place + 1:])


class TestSpans(Checked):
    def test_moments_through_other_rows(self):
        ledger = put(CALM, (1, 0), ("x", "z", 5, None))
        first, last = (("x", 3), ("y", 6), ("z", 8)), (("x", 4), ("y", 8), ("z", 9))
        to, back = (("early", "x"), ("least", 0)), (("least", 0), ("late", "z"))
        self.takes(("moments", ledger, "z", 8, 9), (first, to, last, (("late", "z"),)))
        self.takes(("moments", ledger, "x", 3, 4), (first, (("early", "x"),), last, back))
        self.refuses(("moments", ledger, "z", 8, 9), (first, (("early", "z"),), last, (("late", "z"),)))
        self.refuses(("moments", ledger, "z", 8, 9), (last, to, last, (("late", "z"),)))
        self.refuses(("moments", ledger, "x", 3, 4), (first, (("early", "x"),), last, (("late", "x"),)))
        self.refuses(("moments", ledger, "x", 3, 5), (first, (("early", "x"),), LATE, (("late", "x"),)))

    def test_chains_through_a_row_more_often(self):
        ledger = put(TORN, (0, 1, 4, 0, 0, 1), 4)
        placing = (("x", 3), ("y", 4))
        # From x to y and back to x by its clock: no more, no less.
        round_trip = (("least", 0), ("late", "y"), ("early", "x"))
        to, back = (("early", "x"),) + round_trip * 3, round_trip * 2 + (("late", "x"),)
        self.takes(("moments", ledger, "x", 3, 3), (placing, to, placing, back))
        self.takes(("apart", ledger, "x", "x", 0, 0), (placing, round_trip, placing, round_trip * 4))
        self.takes(("apart", ledger, "x", "x", 0, 0), (placing, (), placing, round_trip))
        self.takes(("apart", ledger, "x", "y", 1, 1), (
            placing, round_trip + (("least", 0),), placing, (("late", "y"), ("early", "x")),
        ))

    def test_chains_without_bounds(self):
        for row, (first, last) in {"x": (3, 5), "y": (6, 8), "z": (6, 9)}.items():
            self.takes(("apart", CALM, row, row, 0, 0), (EARLY, (), EARLY, ()))
            self.refuses(("apart", CALM, row, row, 0, 0), (EARLY, [], EARLY, ()))
            self.refuses(("apart", CALM, row, row, 0, 0), (EARLY, None, EARLY, ()))
            self.refuses(("apart", CALM, row, row, 0, 1), (EARLY, (), EARLY, ()))
            self.refuses(("apart", CALM, row, row, -1, 0), (EARLY, (), EARLY, ()))
            self.refuses(("moments", CALM, row, first, last), (EARLY, (), LATE, ()))
        self.refuses(("apart", CALM, "w", "w", 0, 0), (EARLY, (), EARLY, ()))
        # y and z at once: no chain without bounds leads from one to the other.
        self.refuses(("apart", CALM, "y", "z", 0, 0), (EARLY, (), EARLY, ()))
        self.refuses(("quarrel", TORN), ())

    def test_a_row_and_itself_by_a_ring_too_small(self):
        self.refuses(("apart", CALM, "x", "x", 0, 0), (EARLY, (("next", "x", "y"), ("fast", "x", "y")), EARLY, ()))

    def test_rows_that_are_not_the_ledgers(self):
        claim, paper = samples()[2]
        for row in ("w", "g", "h", "early", "", "X", None, 0, ("x",), ["x"]):
            self.refuses(put(claim, (2,), row), paper)
        claim, paper = samples()[4]
        for row in ("w", "g", "", None, 0, ("x",), ["x"], {}):
            self.refuses(put(claim, (2,), row), paper)
            self.refuses(put(claim, (3,), row), paper)

    def test_none_is_no_row(self):
        # Moments are how far rows are from None; but a claim of two rows is one of rows alone.
        paper = samples()[2][1]
        self.takes(("moments", CALM, "x", 3, 5), paper)
        self.refuses(("apart", CALM, None, "x", 3, 5), paper)
        self.refuses(("apart", CALM, "x", None, -5, -3), paper[2:] + paper[:2])
        self.refuses(("apart", CALM, None, None, 0, 0), (EARLY, (), EARLY, ()))
        self.refuses(("moments", CALM, None, 0, 0), (EARLY, (), EARLY, ()))

    def test_spans_of_small_ledgers(self):
        for claim, paper in samples():
            if claim[0] in ("moments", "apart"):
                for low in range(-5, 10):
                    for high in range(-5, 10):
                        other = claim[:-2] + (low, high)
                        self.assertIs(holds(other, paper), other == claim)
                if claim[-2] != claim[-1]:
                    self.refuses(claim, paper[2:] + paper[:2])


class TestWords(Checked):
    def two(self, first, second):
        """Two rows a and b, the moments of each from a number to another one."""
        clocks = (("g", "a", first), ("h", "b", second))
        return (tuple((house, 0, last - least, 0, (((row, last),),)) for house, row, (least, last) in clocks), ())

    def test_can(self):
        ledger = self.two((0, 2), (1, 1))
        for moment, word in enumerate(("ahead", "at once", "behind")):
            back = WORDS[2 - moment]
            for other in WORDS:
                claims = (("can", ledger, "a", "b", other), ("can", ledger, "b", "a", other))
                paper = (("a", moment), ("b", 1))
                self.assertEqual([holds(claim, paper) for claim in claims], [other == word, other == back])
                self.assertTrue(is_so(claims[0]) and is_so(claims[1]))
        self.refuses(("can", ledger, "a", "b", "behind"), (("a", 3), ("b", 1)))

    def test_cannot_by_a_chain(self):
        # b is at least so much later than a, by their clocks: the chain bars each word just where its sum is enough.
        there, back = (("late", "a"), ("early", "b")), (("late", "b"), ("early", "a"))
        for low in range(-2, 4):
            ledger = self.two((0, 0), (low, low + 5))
            answers = {word: holds(("can't", ledger, "a", "b", word), there) for word in WORDS}
            self.assertEqual(answers, {"ahead": False, "at once": low >= 1, "behind": low >= 0})
            answers = {word: holds(("can't", ledger, "b", "a", word), there) for word in WORDS}
            self.assertEqual(answers, {"ahead": low >= 0, "at once": low >= 1, "behind": False})
            for word in WORDS:
                for pair in (("a", "b"), ("b", "a")):
                    self.only_what_is_so(("can't", ledger) + pair + (word,), there)
                    self.refuses(("can't", ledger) + pair + (word,), back)
                    self.refuses(("can't", ledger) + pair + (word,), there + back)
                    self.refuses(("can't", ledger) + pair + (word,), ())

    def test_cannot_by_a_ring(self):
        for row, other in (("x", "y"), ("y", "x")):
            for word in WORDS:
                self.takes(("can't", TORN, row, other, word), RING)
                self.takes(("can't", TORN, row, other, word), RING[1:] + RING[:1])
                self.takes(("can't", TORN, row, other, word), RING * 3)
                self.refuses(("can't", TORN, row, other, word), (("early", "x"), ("late", "x")))
        ledger = put(TORN, (0, 1, 4, 0, 0, 1), 4)
        for word in WORDS:
            self.refuses(("can't", ledger, "x", "y", word), RING)
            self.refuses(("can't", ledger, "x", "y", word), RING[2:] + RING[:2])

    def test_a_chain_between_other_rows(self):
        self.takes(("can't", CALM, "x", "y", "behind"), (("slow", "x", "y"),))
        self.refuses(("can't", CALM, "x", "y", "behind"), (("least", 0),))
        self.refuses(("can't", CALM, "x", "y", "behind"), (("early", "y"),))
        self.refuses(("can't", CALM, "x", "y", "at once"), (("early", "y"),))

    def test_twice_the_same_row(self):
        for word in WORDS:
            for row in ("x", "y", "w", None):
                self.refuses(("can", CALM, row, row, word), EARLY)
                for chain in ((), (("slow", "x", "y"),), (("slow", "x", "y"), ("fast", "x", "y"))):
                    self.refuses(("can't", CALM, row, row, word), chain)
            self.refuses(("can't", TORN, "x", "x", word), RING)
            self.refuses(("can't", TORN, "y", "y", word), RING[2:] + RING[:2])

    def test_rows_and_words_that_are_none(self):
        for row in ("w", "g", None, 0, ["x"], ("x",)):
            for pair in ((row, "y"), ("y", row)):
                for word in WORDS:
                    self.refuses(("can", CALM) + pair + (word,), EARLY)
                    self.refuses(("can't", TORN) + pair + (word,), RING)
        for word in ("", "Ahead", "atonce", "at  once", "first", None, 0, True, ("ahead",), ["ahead"], {}):
            self.refuses(("can", CALM, "x", "y", word), EARLY)
            self.refuses(("can't", TORN, "x", "y", word), RING)
            self.refuses(("can't", CALM, "x", "y", word), (("slow", "x", "y"),))


class TestOrders(Checked):
    def test_along_a_placing(self):
        placing = (("x", 4), ("y", 7), ("z", 7))
        self.takes(("order", CALM, ("x", "y", "z")), placing)
        self.takes(("order", CALM, ("x", "z", "y")), placing)
        self.takes(("order", CALM, ("x", "z", "y")), (("x", 4), ("y", 7), ("z", 6)))
        self.refuses(("order", CALM, ("x", "z", "y")), (("x", 4), ("y", 7), ("z", 8)))
        self.refuses(("order", CALM, ("y", "x", "z")), placing)
        self.refuses(("order", CALM, ("x", "y", "z")), (("x", 4), ("y", 5), ("z", 7)))

    def test_what_is_no_order(self):
        wrong = [
            ("x", "y"), ("x", "y", "z", "z"), ("x", "y", "y"), ("x", "y", "w"), ("x", "y", "z", "w"), (), None, "xyz",
            ["x", "y", "z"], {"x": 0, "y": 1, "z": 2}, (("x",), "y", "z"), ("x", "y", None), (0, 1, 2),
            ("x", "y", ["z"]),
        ]
        for order in wrong:
            self.refuses(("order", CALM, order), EARLY)
            self.refuses(("no order", CALM, order), (("slow", "x", "y"), ("along", 0)))
            if order != ("x", "y"):
                self.refuses(("no order", TORN, order), RING)

    def test_no_order_by_a_ring_of_the_ledger(self):
        for order in (("x", "y"), ("y", "x")):
            self.takes(("no order", TORN, order), RING)
            self.refuses(("order", TORN, order), (("x", 3), ("y", 3)))
        self.refuses(("no order", CALM, ("x", "y", "z")), RING)

    def test_steps(self):
        order = ("y", "z", "x")
        ring = (("slow", "x", "y"), ("along", 0), ("along", 1))
        for turn in range(3):
            self.takes(("no order", CALM, order), ring[turn:] + ring[:turn])
        self.takes(("no order", CALM, order), ring * 5)
        self.takes(("no order", CALM, order), (("least", 0), ("along", 1)))
        for step in (
            ("along", True), ("along", False), ("along", -1), ("along", 2), ("along", 3), ("along", "0"),
            ("along", None),
            ("along",), ("along", 0, 0), ["along", 0], ("Along", 0), ("along", (0,)), ("along", 10 ** 9), (0, "along"),
            "along", 0,
        ):
            self.refuses(("no order", CALM, order), (("slow", "x", "y"), step, ("along", 1)))
            self.refuses(("no order", CALM, order), (("least", 0), step))
            self.refuses(("no order", CALM, ("y", "x", "z")), (("slow", "x", "y"), step))

    def test_a_truth_for_each_step(self):
        self.takes(("no order", CALM, ("y", "x", "z")), (("slow", "x", "y"), ("along", 0)))
        self.refuses(("no order", CALM, ("y", "x", "z")), (("slow", "x", "y"), ("along", False)))
        self.takes(("no order", CALM, ("y", "z", "x")), (("least", 0), ("along", 1)))
        self.refuses(("no order", CALM, ("y", "z", "x")), (("least", 0), ("along", True)))

    def test_a_sum_just_enough_and_one_too_small(self):
        houses = (("g", 0, 0, 0, ((("a", 5),),)), ("h", 0, 0, 0, ((("b", 5),),)))
        ring = (("along", 0), ("late", "a"), ("early", "b"))
        self.refuses(("no order", (houses, ()), ("b", "a")), ring)
        self.takes(("order", (houses, ()), ("b", "a")), (("a", 5), ("b", 5)))
        houses = put(houses, (1, 4, 0, 0, 1), 6)
        self.takes(("no order", (houses, ()), ("b", "a")), ring)

    def test_steps_of_the_last_row_and_back(self):
        # A step leads onward alone, and from the last row nowhere.
        self.refuses(("no order", CALM, ("x", "y", "z")), (("slow", "x", "y"), ("along", 0)))
        self.refuses(("no order", CALM, ("x", "y", "z")), (("slow", "x", "y"), ("along", 1), ("along", 2)))
        self.refuses(("no order", CALM, ("x", "y", "z")), (("along", 0), ("along", 1), ("along", 2)))
        self.refuses(("no order", CALM, ("x", "y", "z")), (("along", 0), ("along", -2)))

    def test_steps_are_of_orders_alone(self):
        steps = (("slow", "x", "y"), ("along", 0))
        self.refuses(("quarrel", CALM), steps)
        self.refuses(("can't", CALM, "x", "y", "ahead"), steps)
        self.refuses(("never", CALM, "g"), steps)


class TestMended(Checked):
    def test_k_and_its_neighbours(self):
        # The letter asks for 4 more than the clocks let be.
        ledger = put(TORN, (1, 0), ("x", "y", 4, 5))
        for more in range(8):
            for house, placing in (("g", (("x", 3 - more), ("y", 3))), ("h", (("x", 3), ("y", 3 + more)))):
                claim = ("mended", ledger, house, more)
                self.assertIs(holds(claim, (placing, RING)), more == 4)
                self.assertIs(is_so(claim), more == 4)
                self.refuses(claim, (placing, None))

    def test_the_ring_is_of_one_less(self):
        ledger = put(TORN, (1, 0), ("x", "y", 4, None))
        placing = (("x", -1), ("y", 3))
        self.takes(("mended", ledger, "g", 4), (placing, RING))
        # With 5 there is a placing, but the ring of the ledger itself doesn't bar one with 4.
        self.refuses(("mended", ledger, "g", 5), (placing, RING))
        self.refuses(("mended", ledger, "g", 3), (placing, RING))
        self.takes(("mended", ledger, "g", 4), (placing, RING * 4))

    def test_both_ends_of_a_clock_give_way(self):
        ledger = ((FALL[0][0][:4] + (((("x", 9),), (("y", 5),)),),), ())
        ring = (("early", "x"), ("next", "x", "y"), ("late", "y"))
        for more in range(6):
            placing = (("x", 9 - more), ("y", 5 + more))
            self.assertIs(holds(("mended", ledger, "g", more), (placing, ring)), more == 3)

    def test_none_just_where_k_is_0(self):
        self.takes(("mended", CALM, "g", 0), (LATE, None))
        for ring in ((), (("early", "x"), ("late", "x")), RING, False, 0, "None", [None]):
            self.refuses(("mended", CALM, "g", 0), (LATE, ring))
        self.refuses(("mended", CALM, "g", 1), (LATE, None))
        self.refuses(("mended", TORN, "g", 1), ((("x", 2), ("y", 3)), None))

    def test_numbers_and_houses_that_are_none(self):
        for more in (False, True, None, "0", -1, (0,), [0], {}):
            self.refuses(("mended", CALM, "g", more), (LATE, None))
            self.refuses(("mended", TORN, "g", more), ((("x", 2), ("y", 3)), RING))
        for house in ("x", "k", "", "G", None, 0, ("g",), ["g"], {}, True):
            self.refuses(("mended", CALM, house, 0), (LATE, None))
            self.refuses(("never", LOOP, house), LOOP_RING)

    def test_below_0(self):
        # A clock off by 1 less still lets a placing be, and off by 2 less it would quarrel; but k is from 0 on.
        ledger = one_house(-1, 1, 0, (("x", 5),))
        placing, ring = (("x", 5),), (("early", "x"), ("late", "x"))
        self.assertTrue(is_so(("placed", wider(ledger, "h", -1))) and not is_so(("placed", wider(ledger, "h", -2))))
        self.takes(("mended", ledger, "h", 0), (placing, None))
        for more in (-1, -2):
            self.refuses(("mended", ledger, "h", more), (placing, ring))
            self.refuses(("mended", ledger, "h", more), (placing, None))

    def test_great_numbers(self):
        far = 10 ** 9
        houses = (("g", -far, -far, 0, ((("x", far),),)), ("h", far, far, 0, ((("y", -far),),)))
        ledger = (houses, (("x", "y", far, far),))
        placing = (("x", -3 * far), ("y", -2 * far))
        self.takes(("mended", ledger, "g", 5 * far), (placing, RING))
        self.refuses(("mended", ledger, "g", 5 * far - 1), (placing, RING))
        self.refuses(("mended", ledger, "g", 5 * far + 1), (placing, RING))

    def test_never(self):
        self.takes(("never", FALL, "h"), FALL_RING)
        self.refuses(("never", FALL, "g"), FALL_RING)
        for house in ("g", "h"):
            self.takes(("never", LOOP, house), LOOP_RING)
            self.takes(("never", LOOP, house), LOOP_RING * 3)
            self.takes(("never", LOOP, house), LOOP_RING[1:] + LOOP_RING[:1])
        self.refuses(("never", LOOP, "g"), LOOP_RING[:2])
        self.refuses(("never", CALM, "g"), (("early", "z"), ("late", "z")))

    def test_never_with_bounds_of_clocks(self):
        # The ring of letters, but with a way to None and back to the same row in it.
        far = 10 ** 6
        ledger = put(put(LOOP, (0, 1, 1), 0), (0, 1, 2), 0)
        detour = (("next", "x", "y"), ("least", 1), ("late", "p"), ("early", "p"), ("least", 0))
        self.takes(("never", ledger, "g"), detour)
        self.refuses(("never", ledger, "h"), detour)
        self.takes(("never", ledger, "h"), LOOP_RING)
        for bound in (("late", "p"), ("early", "p")):
            self.assertEqual(abs(leads(ledger, bound)[2]), 0)
        self.assertEqual(ledger[0][0][1:3], (-far, far))

    def test_never_of_a_house_without_rows(self):
        ledger = (TORN[0] + (("k", 0, 0, 0, ()),), TORN[1])
        self.takes(("never", ledger, "k"), RING)
        self.refuses(("never", ledger, "g"), RING)
        self.refuses(("never", ledger, "h"), RING)

    def test_one_bound_of_the_clock_is_enough(self):
        wide = 10 ** 9
        for house, name in ((0, "g"), (1, "h")):
            ledger = put(put(TORN, (0, house, 1), -wide), (0, house, 2), wide)
            self.refuses(("never", ledger, name), RING)


class TestByChance(Checked):
    def test_walks_and_placings_for_all_claims(self):
        chance = random.Random(62)
        taken = {}
        for _ in range(400):
            ledger = small_ledger(chance)
            rows = [row for house in ledger[0] for run in house[4] for row, _ in run]
            if len(rows) < 2:
                continue
            papers = [self.walk(chance, ledger) for _ in range(12)] + [placed(ledger)[1]]
            for paper in papers:
                row, other = chance.sample(rows, 2)
                house = chance.choice(ledger[0])[0]
                order = tuple(chance.sample(rows, len(rows)))
                claims = [
                    ("placed", ledger), ("quarrel", ledger), ("never", ledger, house), ("order", ledger, order),
                    ("no order", ledger, order),
                ]
                claims += [(word, ledger, row, other, said) for word in ("can", "can't") for said in WORDS]
                for claim in claims:
                    if self.only_what_is_so(claim, paper):
                        taken[claim[0]] = taken.get(claim[0], 0) + 1
                for more in range(3):
                    both = (placed(wider(ledger, house, more))[1], paper if more else None)
                    self.only_what_is_so(("mended", ledger, house, more), both)
        self.assertEqual(set(taken), {"placed", "quarrel", "never", "order", "no order", "can", "can't"})

    def walk(self, chance, ledger):
        """A chain of the ledger's bounds, a ring where it comes to be one."""
        known = bounds_of(ledger)
        chain = [chance.choice(known)]
        for _ in range(chance.randrange(6)):
            end = leads(ledger, chain[-1])[1]
            if end == leads(ledger, chain[0])[0]:
                break
            chain.append(chance.choice([bound for bound in known if leads(ledger, bound)[0] == end]))
        return tuple(chain)


class TestImports(unittest.TestCase):
    def test_nothing_of_the_stages_4_to_11(self):
        drawn = drawn_by("checker")
        self.assertEqual(drawn & set(LATER), set())
        self.assertIn("ledgers", drawn)
        for name in LATER:
            self.assertTrue(os.path.exists(os.path.join(PACKAGE, name + ".py")), name)


if __name__ == "__main__":
    unittest.main()
