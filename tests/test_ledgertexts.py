import random
import unittest

from skewbooks.errors import NoText
from skewbooks.ledgers import is_ledger
from skewbooks.ledgertexts import read_ledger, show_ledger
from tests.helper import big, full_ledger, odd_things, one_house, same_behind, small_ledger

BIG = """house hb -2 3 1: x@5 y@7 v@12 / z@11
house ha 0 10 2: p@1 q@9
house hc 4 4 0:
letter p y 2 6
letter q z 3 3
letter y q 1 -"""


class TestTexts(unittest.TestCase):
    def both_ways(self, ledger, text):
        self.assertTrue(is_ledger(ledger))
        self.assertEqual(same_behind(self, show_ledger, ledger), text)
        self.assertEqual(same_behind(self, read_ledger, text), ledger)
        self.assertTrue(is_ledger(read_ledger(text)))

    def test_the_examples_of_the_document(self):
        house = ("a", -1, 2, 3, ((("x", 5), ("y", 7)), (("z", 2),)))
        self.both_ways(((house,), ()), "house a -1 2 3: x@5 y@7 / z@2")
        self.both_ways(((("a", -1, 2, 3, ()),), ()), "house a -1 2 3:")

    def test_a_whole_ledger(self):
        self.both_ways(big(), BIG)

    def test_several_runs(self):
        self.both_ways(one_house(0, 0, 0, (("x", 1),)), "house h 0 0 0: x@1")
        self.both_ways(one_house(0, 0, 0, (("x", 1),), (("y", 1),)), "house h 0 0 0: x@1 / y@1")
        self.both_ways(
            one_house(0, 0, 0, (("x", 1),), (("y", 1), ("w", 2)), (("z", -1),)), "house h 0 0 0: x@1 / y@1 w@2 / z@-1",
        )

    def test_houses_without_rows(self):
        names = ("mill", "abcdefgh", "b", "a", "zz", "house")
        houses = tuple((name, 0, 0, 0, ()) for name in names)
        self.both_ways((houses, ()), "\n".join(f"house {name} 0 0 0:" for name in names))

    def test_names_like_words(self):
        houses = (("letter", 0, 0, 0, ((("house", 0),),)), ("house", 0, 0, 0, ((("letter", 0),),)))
        self.both_ways(
            (houses, (("house", "letter", 1, None), ("letter", "house", 1, None))),
            "house letter 0 0 0: house@0\nhouse house 0 0 0: letter@0\nletter house letter 1 -\nletter letter house 1 -",
        )

    def test_numbers(self):
        far = 10 ** 9
        self.both_ways(one_house(-far, far, far, (("x", -far), ("y", -1), ("z", 0), ("w", far))),
                       "house h -1000000000 1000000000 1000000000: x@-1000000000 y@-1 z@0 w@1000000000")
        self.both_ways(one_house(-10, -10, 10, (("x", 999999999),)), "house h -10 -10 10: x@999999999")
        self.both_ways(one_house(-3 * far, 5 * far, 0, (("x", 7 * far),)), "house h -3000000000 5000000000 0: x@7000000000")

    def test_letters(self):
        houses = (("g", 0, 9, 0, ((("a", 5),),)), ("h", 0, 9, 0, ((("b", 6),),)))
        rows = "house g 0 9 0: a@5\nhouse h 0 9 0: b@6"
        self.both_ways((houses, ()), rows)
        self.both_ways((houses, (("a", "b", 1, None),)), rows + "\nletter a b 1 -")
        self.both_ways((houses, (("a", "b", 1, 1),)), rows + "\nletter a b 1 1")
        self.both_ways((houses, (("a", "b", 5, 10 ** 9), ("b", "a", 10 ** 9, None))),
                       rows + "\nletter a b 5 1000000000\nletter b a 1000000000 -")

    def test_there_and_back_by_chance(self):
        chance = random.Random(81)
        for ledger in [small_ledger(chance) for _ in range(200)] + [full_ledger(chance, off) for off in (0, 10 ** 9, -10 ** 9)]:
            text = show_ledger(ledger)
            self.assertIsInstance(text, str)
            self.assertEqual(same_behind(self, read_ledger, text), ledger)
            self.assertEqual(show_ledger(read_ledger(text)), text)
            self.assertFalse(text.endswith("\n"))


class TestNoText(unittest.TestCase):
    def refuses(self, text, part):
        for _ in range(2):
            with self.assertRaises(NoText) as caught:
                read_ledger(text)
            self.assertEqual(caught.exception.part, part, text)
            self.assertIs(caught.exception.part.__class__, part.__class__)

    def spoilt(self, place, row):
        """The text of big() with another row in the place of one is refused by this row."""
        rows = BIG.split("\n")
        self.refuses("\n".join(rows[:place] + [row] + rows[place + 1:]), place)

    def test_what_is_no_text(self):
        for thing in odd_things() + [0, 1, b"house a 0 0 0:", ["house a 0 0 0:"], ("house a 0 0 0:",), {"house a 0 0 0:": 1}]:
            if not isinstance(thing, str):
                self.refuses(thing, None)

    def test_the_empty_text(self):
        self.refuses("", 0)
        self.refuses("\n", 0)
        self.refuses(" ", 0)

    def test_signs_more_fewer_and_others(self):
        read_ledger(BIG)
        changed = 0
        for place, row in enumerate(BIG.split("\n")):
            for at in range(len(row) + 1):
                others = [row[:at] + sign + row[at:] for sign in " /:@-0a_\t+;.A\r"]
                if at < len(row):
                    others += [row[:at] + row[at + 1:]] + [row[:at] + sign + row[at + 1:] for sign in " /:@-0a_+A\t"]
                for other in others:
                    rows = BIG.split("\n")
                    rows[place] = other
                    changed += self.one_or_the_other("\n".join(rows))
        self.assertGreater(changed, 2000)

    def one_or_the_other(self, text):
        """The text is that of the ledger that is read, or is refused by the first row that makes it none. Tells which."""
        try:
            ledger = read_ledger(text)
        except NoText as refusal:
            part = refusal.part
            rows = text.split("\n")
            self.assertTrue(0 <= part < len(rows))
            if part > 0:
                self.assertEqual(show_ledger(read_ledger("\n".join(rows[:part]))), "\n".join(rows[:part]))
            self.refuses("\n".join(rows[:part + 1]), part)
            return True
        self.assertTrue(is_ledger(ledger))
        self.assertEqual(show_ledger(ledger), text)
        return False

    def test_blanks(self):
        for place, row in enumerate(BIG.split("\n")):
            self.spoilt(place, " " + row)
            self.spoilt(place, row + " ")
            for at, sign in enumerate(row):
                if sign == " ":
                    self.spoilt(place, row[:at] + " " + row[at:])
                    self.spoilt(place, row[:at] + row[at + 1:])
                    self.spoilt(place, row[:at] + "\t" + row[at + 1:])

    def test_signs_of_houses(self):
        for row in (
            "house hb -2 3 1 : x@5", "house hb -2 3 1:x@5", "house hb -2 3 1 x@5", "house hb -2 3 1",
            "house hb -2 3 1:: x@5",
            "house hb -2 3 1: x@5 y", "house hb -2 3 1: x@", "house hb -2 3 1: @5", "house hb -2 3 1: x5",
            "house hb -2 3 1: x@@5",
            "house hb -2 3 1: x@5@6", "house hb -2 3 1: x @5", "house hb -2 3 1: x@ 5", "house hb -2 3 1: x=5",
            "house hb -2 3 1: x@5,y@7",
            "house hb -2 3 1: x@5:", "house hb -2 3 1; x@5", "House hb -2 3 1:", "houses hb -2 3 1:",
            "hous hb -2 3 1:", "hb -2 3 1:",
            "house", "house ", "house:", "house :", ":", "house hb:", "house hb -2 3:", "house hb -2 3 1 1:",
            "house -2 3 1:", "house hb hb -2 3 1:",
            "", " ", "x",
        ):
            self.spoilt(0, row)

    def test_runs(self):
        for runs in (
            " /", " x@5 /", " x@5 / ", " / x@5", "/ x@5", " x@5 / / y@7", " x@5 // y@7", " x@5 /  y@7", " x@5 /y@7",
            " x@5/ y@7", " x@5/y@7",
            " x@5 /  / y@7", " x@5 | y@7", "  /", " / /",
        ):
            self.refuses("house a 0 9 0:" + runs, 0)
            self.refuses("house b 0 0 0:\nhouse a 0 9 0:" + runs, 1)

    def test_numbers(self):
        for number in (
            "-0", "00", "01", "007", "-01", "+1", "+0", "1.0", "1.", ".1", "1e3", "0x1", "1_0", "--1", "-", "- 1",
            "1-", "", "one", "\t1", "1\t",
            "\u0661", "\u00b2", "\uff11", "None", "True", "a", "1" * 5000 + "x",
        ):
            self.refuses(f"house a {number} 99 0:", 0)
            self.refuses(f"house a -99 {number} 0:", 0)
            self.refuses(f"house a 0 0 {number}:", 0)
            self.refuses(f"house a 0 0 0: x@{number}", 0)
            self.refuses(f"house a 0 0 0: x@-9 y@{number} z@9", 0)
            self.spoilt(3, f"letter p y {number} 6")
            if number != "-":
                self.spoilt(3, f"letter p y 1 {number}")
        self.spoilt(3, "letter p y - 6")
        self.spoilt(3, "letter p y 1 --")

    def test_names(self):
        for name in (
            "A", "aB", "abcdefghi", "a1", "1", "a_b", "", "a-b", "\u00e4", "a\u00df", "A@1", "a:b", "a/b", "/",
            "\uff41",
        ):
            self.refuses(f"house {name} 0 0 0:", 0)
            self.refuses(f"house a 0 0 0: {name}@1", 0)
            self.refuses(f"house a 0 0 0: x@0 {name}@1", 0)
            self.spoilt(3, f"letter {name} y 2 6")
            self.spoilt(3, f"letter p {name} 2 6")

    def test_letters(self):
        for row in (
            "letter p y 2", "letter p y", "letter p", "letter", "letter ", "letter p y 2 6 6", "letter p y 2 - -",
            "Letter p y 2 6", "letters p y 2 6",
            "p y 2 6", "letter p y 2 6:", "letter p y 2 None", "letter p y 2 6/", "letter: p y 2 6", "letter p,y 2 6",
            "",
        ):
            self.spoilt(3, row)

    def test_what_is_no_ledger_by_a_house(self):
        for row in (
            "house ha 1 0 0:", "house ha 0 0 -1:", "house ha 0 0 0: x@2 y@2", "house ha 0 0 0: x@2 y@1",
            "house ha 0 0 0: x@1 x@2",
            "house ha 0 0 0: x@1 / x@2",
        ):
            self.refuses(row, 0)
        for row in ("house hb 0 0 0:", "house hb -2 3 1:", "house ha 0 10 2: x@1", "house ha 0 10 2: p@1 / z@2"):
            self.spoilt(1, row)

    def test_what_is_no_ledger_by_a_letter(self):
        for row in (
            "letter w y 2 6", "letter p w 2 6", "letter p p 2 6", "letter p q 2 6", "letter x z 1 -",
            "letter hb ha 1 -", "letter p y 0 6",
            "letter p y -1 -", "letter p y 3 2",
        ):
            self.spoilt(3, row)
        rows = BIG.split("\n")
        self.refuses("\n".join(rows[:4] + rows[3:]), 4)
        self.refuses("\n".join(rows[:4] + ["letter p y 9 9"]), 4)
        self.refuses("\n".join(rows[:3] + rows[4:] + rows[3:4]), 5)
        self.refuses("\n".join(rows[:3] + [rows[4], rows[3], rows[5]]), 4)

    def test_too_many(self):
        houses = [f"house {name} 0 0 0:" for name in "abcdefg"]
        self.assertEqual(len(read_ledger("\n".join(houses[:6]))[0]), 6)
        self.refuses("\n".join(houses), 6)
        names = [a + b for a in "abcde" for b in "vwxyz"]
        rows = [f" {name}@{place}" for place, name in enumerate(names)]
        self.assertEqual(len(read_ledger("house a 0 0 0:" + "".join(rows[:24]))[0][0][4][0]), 24)
        self.refuses("house a 0 0 0:" + "".join(rows), 0)
        self.refuses("house a 0 0 0:" + "".join(rows[:20]) + "\nhouse b 0 0 0:" + "".join(rows[20:]), 1)
        both = ["house a 0 0 0: a@1 b@2 c@3 d@4 e@5", "house b 0 0 0: v@1 w@2 x@3 y@4 z@5"]
        letters = [f"letter {a} {b} 1 -" for a in "abcde" for b in "vwxyz"]
        self.assertEqual(len(read_ledger("\n".join(both + letters[:24]))[1]), 24)
        self.refuses("\n".join(both + letters), 26)

    def test_a_letter_ahead_of_a_house(self):
        one, other, letter = "house a 0 9 0: x@5", "house b 0 9 0: y@7", "letter x y 1 -"
        read_ledger("\n".join([one, other, letter]))
        self.refuses("\n".join([letter, one, other]), 0)
        # With the row ahead of it alone the letter is taken by nobody.
        self.refuses("\n".join([one, letter, other]), 1)
        self.refuses("\n".join([one, other, letter, "house c 0 0 0:"]), 3)
        self.refuses("\n".join([one, other, letter, one]), 3)

    def test_empty_rows(self):
        rows = BIG.split("\n")
        for place in range(len(rows) + 1):
            self.refuses("\n".join(rows[:place] + [""] + rows[place:]), place)
            self.refuses("\n".join(rows[:place] + [" "] + rows[place:]), place)
        self.refuses(BIG + "\n", 6)
        self.refuses("\n" + BIG, 0)

    def test_other_line_ends(self):
        self.refuses(BIG.replace("\n", "\r\n"), 0)
        self.refuses(BIG.replace("\n", "; "), 0)
        self.refuses(BIG.replace("\n", "\r"), 0)

    def test_several_rows_at_fault(self):
        rows = BIG.split("\n")
        for first in range(len(rows)):
            for second in range(first + 1, len(rows)):
                wrong = list(rows)
                wrong[first] = wrong[second] = "nothing"
                self.refuses("\n".join(wrong), first)
        # The row by which it is no ledger comes ahead of one that is written otherwise, and behind one.
        wrong = rows[:1] + ["house hb 0 0 0:"] + rows[2:5] + ["letter"]
        self.refuses("\n".join(wrong), 1)
        wrong = ["house hb -2 3 1"] + wrong[1:]
        self.refuses("\n".join(wrong), 0)

    def test_a_house_left_out(self):
        rows = BIG.split("\n")
        self.refuses("\n".join(rows[1:]), 2)
        self.refuses("\n".join(rows[:1] + rows[2:]), 2)
        self.assertEqual(read_ledger("\n".join(rows[:2] + rows[3:])), (big()[0][:2], big()[1]))


if __name__ == "__main__":
    unittest.main()
