import copy
import random
import unittest
from unittest import mock

import skewbooks.desk
from skewbooks.desk import Desk
from skewbooks.errors import NoCall, NoKept, NoMerge, NoPlacing, NoRow, NoText, NoWord, SkewError, TooMany
from skewbooks.ledgertexts import read_ledger, show_ledger
from skewbooks.ledgers import is_placing, rows_of
from skewbooks.merges import merged
from skewbooks.mends import least_mend
from skewbooks.moments import moments
from skewbooks.orders import orders, plain_order
from skewbooks.pairs import apart, can_be
from skewbooks.settling import placed
from tests.helper import big, check_ring, full_ledger, odd_things, one_house, quarrels, small_ledger

CALM = "house g 0 2 1: x@5 y@8; house h 0 3 0: z@9; letter x z 2 -"
TORN = "house g 0 0 0: x@3; house h 0 0 0: y@3; letter x y 1 5"
LOOP = "house g -99 99 0: x@0 / y@0; house h -99 99 0: p@0; letter p x 1 -; letter y p 1 -"
EMPTY = "house g 0 0 0:"


def one_row(ledger):
    """The ledger's text in one row."""
    return show_ledger(ledger).replace("\n", "; ")


def full_desk():
    """A desk that keeps a ledger with a placing, one that can be mended, one that can't, and one without rows."""
    desk = Desk()
    for name, text in (("calm", CALM), ("torn", TORN), ("loop", LOOP), ("empty", EMPTY)):
        desk.say(f"book {name} {text}")
    return desk


class AtTheDesk(unittest.TestCase):
    def says(self, desk, row, answer):
        told = desk.say(row)
        self.assertIsInstance(told, str)
        self.assertEqual(told, answer, row)

    def refuses(self, desk, row, error, **fields):
        """The row is refused, twice the same, and what was kept and shown last is as it was."""
        before = copy.deepcopy(vars(desk))
        for _ in range(2):
            with self.assertRaises(SkewError) as caught:
                desk.say(row)
            self.assertIs(caught.exception.__class__, error, row)
            for field, value in fields.items():
                self.assertEqual(getattr(caught.exception, field), value)
        self.assertEqual(vars(desk), before)

    def no_call(self, desk, row):
        before = copy.deepcopy(vars(desk))
        with self.assertRaises(NoCall) as caught:
            desk.say(row)
        self.assertIs(caught.exception.row, row)
        self.assertEqual(vars(desk), before)


class TestAnswers(AtTheDesk):
    def test_book_and_show(self):
        desk = Desk()
        for text in (CALM, TORN, LOOP, EMPTY, one_row(big())):
            self.says(desk, "book a " + text, "ok")
            self.says(desk, "show a", text)
            self.says(desk, "show a", text)

    def test_book_takes_the_place_of_what_was_kept(self):
        desk = full_desk()
        self.says(desk, "book calm " + TORN, "ok")
        self.says(desk, "show calm", TORN)
        self.says(desk, "place calm", "quarrel")
        self.says(desk, "show torn", TORN)

    def test_place(self):
        desk = full_desk()
        words = desk.say("place calm").split(" ")
        placing = tuple((word.split("=")[0], int(word.split("=")[1])) for word in words)
        self.assertTrue(is_placing(read_ledger(CALM.replace("; ", "\n")), placing))
        desk.say("book one house h 0 0 0: x@-5 y@6 / z@7")
        self.says(desk, "place one", "x=-5 y=6 z=7")
        desk.say("book two house h 0 0 0: y@0; house a 0 0 0: x@1000000000")
        self.says(desk, "place two", "x=1000000000 y=0")
        self.says(desk, "place torn", "quarrel")
        self.says(desk, "place loop", "quarrel")
        self.says(desk, "place empty", "-")

    def test_moments(self):
        desk = full_desk()
        self.says(desk, "moments calm x", "3 5")
        self.says(desk, "moments calm y", "6 8")
        self.says(desk, "moments calm z", "6 9")
        desk.say("book a house h 5 9 0: x@0")
        self.says(desk, "moments a x", "-9 -5")

    def test_apart(self):
        desk = full_desk()
        self.says(desk, "apart calm x y", "2 4")
        self.says(desk, "apart calm y x", "-4 -2")
        self.says(desk, "apart calm z y", "-3 2")
        self.says(desk, "apart calm z z", "0 0")

    def test_can(self):
        desk = full_desk()
        self.says(desk, "can calm x y", "ahead")
        self.says(desk, "can calm y x", "behind")
        self.says(desk, "can calm y z", "ahead, at once, behind")
        desk.say("book a house g 0 1 0: x@5; house h 0 0 0: y@5")
        self.says(desk, "can a x y", "ahead, at once")
        self.says(desk, "can a y x", "at once, behind")

    def test_order(self):
        desk = full_desk()
        self.says(desk, "order calm", "x y z")
        self.says(desk, "order empty", "-")
        desk.say("book a house g 0 1 0: z@5; house h 0 0 0: y@5; house i 0 1 0: x@5")
        self.says(desk, "order a", "x z y")

    def test_orders(self):
        desk = full_desk()
        self.says(desk, "orders calm", "2")
        self.says(desk, "orders empty", "1")
        desk.say("book a house g 0 1 0: x@5; house h 0 1 0: y@5; house i 0 1 0: z@5")
        self.says(desk, "orders a", "6")

    def test_mend(self):
        desk = full_desk()
        self.says(desk, "mend torn", "g 1")
        self.says(desk, "mend loop", "none")
        self.says(desk, "mend calm", "g 0")
        self.says(desk, "mend empty", "g 0")
        desk.say("book a house b 0 0 0: x@1000000000 / y@-1000000000; house a 0 0 0:")
        self.says(desk, "mend a", "b 1000000001")

    def test_merge(self):
        desk = Desk()
        desk.say("book a house g 0 9 0: x@5")
        desk.say("book b house h 0 9 0: z@5; house g 0 9 0: w@1 / y@2")
        self.says(desk, "merge c a b", "ok")
        self.says(desk, "show c", "house g 0 9 0: w@1 x@5 / y@2; house h 0 9 0: z@5")
        self.says(desk, "show a", "house g 0 9 0: x@5")
        self.says(desk, "merge c b a", "ok")
        self.says(desk, "show c", "house h 0 9 0: z@5; house g 0 9 0: w@1 x@5 / y@2")
        self.says(desk, "merge c a a", "ok")
        self.says(desk, "show c", "house g 0 9 0: x@5")

    def test_merge_in_the_place_of_one_of_the_two(self):
        for first in ("a", "b"):
            desk = Desk()
            desk.say("book a house g 0 9 0: x@5")
            desk.say("book b house h 0 9 0: z@5")
            self.says(desk, f"merge {first} a b", "ok")
            self.says(desk, f"show {first}", "house g 0 9 0: x@5; house h 0 9 0: z@5")

    def test_a_merge_that_quarrels(self):
        desk = Desk()
        desk.say("book a house g 0 0 0: x@5; house h 0 0 0: y@6; letter x y 1 -")
        desk.say("book b house g 0 0 0: x@5; house h 0 0 0: z@5; letter z x 1 -")
        self.says(desk, "merge a a b", "ok")
        self.says(desk, "place a", "quarrel")

    def test_against_the_functions(self):
        chance = random.Random(91)
        for ledger in [small_ledger(chance) for _ in range(60)] + [big(), full_ledger(chance)]:
            desk = Desk()
            self.says(desk, "book a " + one_row(ledger), "ok")
            self.says(desk, "show a", one_row(ledger))
            told = least_mend(ledger)
            self.says(desk, "mend a", f"{told[0]} {told[1]}" if told else "none")
            if placed(ledger)[0] == "quarrel":
                self.says(desk, "place a", "quarrel")
                continue
            self.says(desk, "order a", " ".join(plain_order(ledger)) or "-")
            if len(rows_of(ledger)) < 7:
                self.says(desk, "orders a", str(len(orders(ledger))))
            for row, other in [chance.choices(rows_of(ledger), k=2) for _ in range(5) if rows_of(ledger)]:
                self.says(desk, f"moments a {row}", "{} {}".format(*moments(ledger, row)))
                self.says(desk, f"apart a {row} {other}", "{} {}".format(*apart(ledger, row, other)))
                if row != other:
                    self.says(desk, f"can a {row} {other}", ", ".join(can_be(ledger, row, other)))

    def test_merges_against_the_function(self):
        chance = random.Random(92)
        seen = set()
        for _ in range(120):
            one, other = small_ledger(chance), small_ledger(chance)
            desk = Desk()
            desk.say("book a " + one_row(one))
            desk.say("book b " + one_row(other))
            try:
                told = merged(one, other)
            except NoMerge:
                self.refuses(desk, "merge c a b", NoMerge)
                self.refuses(desk, "show c", NoKept, name="c")
                seen.add("refused")
                continue
            self.says(desk, "merge c a b", "ok")
            self.says(desk, "show c", one_row(told))
            seen.add("merged")
        self.assertEqual(seen, {"refused", "merged"})

    def test_a_name_can_be_any_name(self):
        desk = Desk()
        for name in ("a", "book", "paper", "abcdefgh", "place"):
            self.says(desk, f"book {name} house {name} 0 0 0: {name}@5", "ok")
            self.says(desk, f"moments {name} {name}", "5 5")

    def test_two_desks(self):
        one, other = Desk(), Desk()
        one.say("book a " + CALM)
        self.refuses(other, "show a", NoKept, name="a")
        other.say("book a " + TORN)
        self.says(one, "show a", CALM)
        self.says(one, "moments a x", "3 5")
        self.says(other, "paper", "none")
        self.says(one, "paper", "holds")


class TestPaper(AtTheDesk):
    def test_ahead_of_any_question(self):
        self.says(Desk(), "paper", "none")
        desk = full_desk()
        self.says(desk, "paper", "none")
        for row in ("show calm", "can calm x y", "order calm", "orders calm", "mend torn", "merge a calm calm"):
            desk.say(row)
            self.says(desk, "paper", "none")

    def test_behind_place_moments_and_apart(self):
        for row in (
            "place calm", "place torn", "place loop", "place empty", "moments calm x", "moments calm z",
            "apart calm x y",
            "apart calm z y", "apart calm x x",
        ):
            desk = full_desk()
            desk.say(row)
            self.says(desk, "paper", "holds")
            self.says(desk, "paper", "holds")

    def test_behind_refused_ones(self):
        refused = (
            "place nobody", "moments torn x", "moments calm w", "apart calm x w", "apart loop x y", "place",
            "apart calm x",
        )
        desk = full_desk()
        for row in refused:
            with self.assertRaises(SkewError):
                desk.say(row)
            self.says(desk, "paper", "none")
        desk.say("place torn")
        for row in refused:
            with self.assertRaises(SkewError):
                desk.say(row)
            self.says(desk, "paper", "holds")

    def test_what_the_checker_is_asked(self):
        # The checker is handed the claim and the paper of the last of the three, whatever was asked behind it.
        desk = full_desk()
        calm, torn = [read_ledger(text.replace("; ", "\n")) for text in (CALM, TORN)]
        rows = [
            ("place calm", ("placed", calm)), ("moments calm y", ("moments", calm, "y", 6, 8)),
            ("place torn", ("quarrel", torn)),
            ("apart calm z y", ("apart", calm, "z", "y", -3, 2)),
        ]
        for row, claim in rows:
            desk.say(row)
            for other in ("can calm x y", "show torn", "mend torn", "order calm", "orders calm", "paper"):
                desk.say(other)
            for refused in ("moments calm w", "place nobody", "apart torn x y", "moment calm x"):
                with self.assertRaises(SkewError):
                    desk.say(refused)
            with mock.patch.object(skewbooks.desk, "holds", return_value=False) as checker:
                self.says(desk, "paper", "no")
                self.assertEqual(checker.call_args.args[0], claim)
            self.says(desk, "paper", "holds")

    def test_the_paper_of_a_quarrel(self):
        desk = full_desk()
        desk.say("place torn")
        with mock.patch.object(skewbooks.desk, "holds", return_value=True) as checker:
            self.says(desk, "paper", "holds")
        (_, ledger), ring = checker.call_args.args
        check_ring(self, ledger, ring)

    def test_what_was_kept_has_changed_since(self):
        desk = full_desk()
        desk.say("moments calm x")
        desk.say("book calm " + TORN)
        self.says(desk, "paper", "holds")
        desk.say("merge calm empty empty")
        self.says(desk, "paper", "holds")

    def test_by_chance(self):
        chance = random.Random(93)
        for ledger in [small_ledger(chance) for _ in range(40)] + [full_ledger(chance)]:
            desk = Desk()
            desk.say("book a " + one_row(ledger))
            desk.say("place a")
            self.says(desk, "paper", "holds")
            if placed(ledger)[0] == "placing" and rows_of(ledger):
                row, other = chance.choices(rows_of(ledger), k=2)
                for question in (f"moments a {row}", f"apart a {row} {other}"):
                    desk.say(question)
                    self.says(desk, "paper", "holds")


class TestNoCall(AtTheDesk):
    def test_what_is_no_text(self):
        desk = full_desk()
        for thing in odd_things() + [0, 1, b"paper", ["paper"], ("paper",), {"paper": 1}, ["show", "calm"]]:
            with self.subTest(kind=type(thing)):
                with self.assertRaises(NoCall) as caught:
                    desk.say(thing)
                self.assertIs(caught.exception.row, thing)

    def test_another_first_word(self):
        desk = full_desk()
        for row in (
            "", " ", "x", "Show calm", "shows calm", "sho calm", "calm", "calm show", "keep calm", "SHOW calm",
            "say paper", "Paper", "none",
            "order", "-", "show\tcalm", "book\tcalm " + EMPTY, "paper\n", "\npaper", "counts calm", "ok",
        ):
            self.no_call(desk, row)

    def test_another_number_of_words(self):
        desk = full_desk()
        rows = (
            "show calm", "place calm", "moments calm x", "apart calm x y", "can calm x y", "order calm", "orders calm",
            "mend calm",
            "merge calm calm calm", "paper",
        )
        for row in rows:
            desk.say(row)
            words = row.split(" ")
            self.no_call(desk, row + " x")
            self.no_call(desk, row + " calm calm calm")
            for many in range(1, len(words)):
                self.no_call(desk, " ".join(words[:many]))

    def test_blanks(self):
        desk = full_desk()
        for row in (
            "show calm", "place calm", "moments calm x", "apart calm x y", "can calm x y", "merge calm calm calm",
            "paper",
        ):
            self.no_call(desk, " " + row)
            self.no_call(desk, row + " ")
            for place, sign in enumerate(row):
                if sign == " ":
                    self.no_call(desk, row[:place] + " " + row[place:])

    def test_names_that_are_none(self):
        desk = full_desk()
        for name in ("A", "Calm", "abcdefghi", "a1", "1", "-", "a-b", "a,", "\u00e4", "calm\n", "\tcalm"):
            for row in (
                f"show {name}", f"place {name}", f"moments {name} x", f"moments calm {name}", f"apart {name} x y",
                f"apart calm {name} y",
                f"apart calm x {name}", f"can {name} x y", f"can calm {name} y", f"can calm x {name}", f"order {name}",
                f"orders {name}",
                f"mend {name}", f"merge {name} calm calm", f"merge a {name} calm", f"merge a calm {name}",
                f"book {name} {EMPTY}",
                f"book {name} ", f"book {name} nothing",
            ):
                self.no_call(desk, row)

    def test_book(self):
        desk = full_desk()
        for row in (
            "book", "book ", "book calm", "book  ", "book  " + EMPTY, " book calm " + EMPTY, "book  calm " + EMPTY,
            "bookcalm " + EMPTY,
        ):
            self.no_call(desk, row)


class TestOrderOfRefusals(AtTheDesk):
    def test_no_text(self):
        desk = full_desk()
        self.refuses(desk, "book calm ", NoText, part=0)
        self.refuses(desk, "book calm  ", NoText, part=0)
        self.refuses(desk, "book fresh nothing", NoText, part=0)
        self.refuses(desk, "book calm  " + EMPTY, NoText, part=0)
        self.refuses(desk, "book calm " + EMPTY + " ", NoText, part=0)
        self.refuses(desk, "book calm " + EMPTY + ";", NoText, part=0)
        self.refuses(desk, "book calm " + EMPTY + "; ", NoText, part=1)
        self.refuses(desk, "book calm " + EMPTY + ";  house h 0 0 0:", NoText, part=1)
        self.refuses(desk, "book calm " + EMPTY + ";house h 0 0 0:", NoText, part=0)
        self.refuses(desk, "book calm " + EMPTY + " ; house h 0 0 0:", NoText, part=0)
        self.refuses(desk, "book calm " + CALM + "; letter", NoText, part=3)
        self.refuses(desk, "show fresh", NoKept, name="fresh")
        self.says(desk, "show calm", CALM)

    def test_no_kept(self):
        desk = full_desk()
        for row in (
            "show nobody", "place nobody", "moments nobody x", "apart nobody x x", "can nobody x x", "order nobody",
            "orders nobody", "mend nobody",
            "merge calm nobody calm", "merge calm calm nobody", "merge a nobody torn", "moments nobody nobody",
            "merge nobody nobody nobody",
        ):
            self.refuses(desk, row, NoKept, name="nobody")
        self.refuses(Desk(), "show calm", NoKept, name="calm")

    def test_two_names_that_are_not_kept(self):
        desk = full_desk()
        self.refuses(desk, "merge calm first second", NoKept, name="first")
        self.refuses(desk, "merge third second first", NoKept, name="second")
        self.refuses(desk, "merge third calm first", NoKept, name="first")
        # The name that is to keep the two is asked of nothing.
        self.says(desk, "merge third calm calm", "ok")

    def test_a_refused_row_keeps_nothing(self):
        desk = Desk()
        self.refuses(desk, "book a nothing", NoText, part=0)
        self.refuses(desk, "merge b a a", NoKept, name="a")
        self.refuses(desk, "show b", NoKept, name="b")

    def test_no_call_ahead_of_no_kept(self):
        desk = Desk()
        for row in (
            "show Nobody", "moments nobody X", "moments nobody", "apart nobody x", "can nobody x Y",
            "merge a nobody B", "paper nobody",
        ):
            self.no_call(desk, row)

    def test_as_the_functions_refuse(self):
        desk = full_desk()
        self.refuses(desk, "moments calm w", NoRow, name="w")
        self.refuses(desk, "moments empty x", NoRow, name="x")
        self.refuses(desk, "apart calm v w", NoRow, name="v")
        self.refuses(desk, "apart calm x w", NoRow, name="w")
        self.refuses(desk, "can calm v v", NoRow, name="v")
        self.refuses(desk, "can calm x w", NoRow, name="w")
        self.refuses(desk, "can calm x x", NoWord)
        for row in (
            "moments torn x", "moments torn w", "apart torn x y", "apart torn v w", "can torn x x", "can torn v w",
            "order torn", "orders torn",
        ):
            self.refuses(desk, row, NoPlacing)

    def test_no_merge(self):
        desk = full_desk()
        self.refuses(desk, "merge calm calm torn", NoMerge)
        self.refuses(desk, "merge fresh calm torn", NoMerge)
        self.refuses(desk, "show fresh", NoKept, name="fresh")
        self.says(desk, "show calm", CALM)

    def test_too_many(self):
        desk = Desk()
        desk.say("book a " + one_row(full_ledger(random.Random(94))))
        self.refuses(desk, "orders a", TooMany)
        self.assertEqual(len(desk.say("order a").split(" ")), 24)
        desk.say("book b " + "; ".join(f"house {name} 0 9 0: {name}@5" for name in "abcdef"))
        self.refuses(desk, "orders b", TooMany)

    def test_ledgers_that_quarrel(self):
        for _, ledger in quarrels():
            desk = Desk()
            desk.say("book a " + one_row(ledger))
            self.says(desk, "place a", "quarrel")
            self.says(desk, "paper", "holds")
            row = rows_of(ledger)[0]
            with self.assertRaises(NoPlacing) as caught:
                desk.say(f"moments a {row}")
            check_ring(self, ledger, caught.exception.ring)
        self.assertEqual(one_row(one_house(0, 0, 0)), "house h 0 0 0:")


if __name__ == "__main__":
    unittest.main()
