import copy
import itertools
import random
import unittest

from skewbooks.errors import NoHouse, NoLetter, NoReading, NoRow, NoRun, SkewError, TooMany
from skewbooks.keepers import Keeper
from skewbooks.ledgers import is_ledger, rows_of
from skewbooks.pairs import can_be
from skewbooks.settling import placed
from tests.helper import Odd, big, full_ledger, full_quarrel, odd_things, put, small_ledger

HOUSES = (("ha", -5, 5, 2), ("hb", 0, 9, 0), ("hc", 0, 0, 0))
FAR = 10 ** 9


def refusal(deed, *things):
    """The class of the refusal, or None where nothing is refused."""
    try:
        deed(*things)
    except SkewError as error:
        return type(error)
    return None


def name_of(number):
    """Names that rise with the number."""
    return "r" + chr(97 + number // 26) + chr(97 + number % 26)


def crowd(many):
    """A keeper with so many rows in ha and hb by turns, from reading 0 on."""
    keeper = Keeper(HOUSES)
    for number in range(many):
        keeper.tell("ha" if number % 2 else "hb", 3, name_of(number), number)
    return keeper


def deeds_of(chance, ledger):
    """What a keeper is to be told so that its ledger is this one, in an order by chance."""
    deeds = []
    for house, _, _, _, runs in ledger[0]:
        numbers = sorted(chance.sample(range(10), len(runs)))
        for number, run in zip(numbers, runs):
            deeds.extend(("tell", house, number, row, reading) for row, reading in run)
    deeds.extend(("letter",) + letter for letter in ledger[1])
    chance.shuffle(deeds)
    return deeds


def made_for(ledger):
    """A keeper of the ledger's houses."""
    return Keeper(tuple(house[:4] for house in ledger[0]))


def tell_all(keeper, deeds):
    """Tell the keeper all of these; gives what it answered."""
    return [getattr(keeper, deed[0])(*deed[1:]) for deed in deeds]


def without(ledger, row):
    """The ledger without the row and its letters."""
    houses = tuple(
        house[:4] + (tuple(
            tuple(kept for kept in run if kept[0] != row) for run in house[4] if [kept for kept in run if kept[0] != row]
        ),)
        for house in ledger[0]
    )
    return (houses, tuple(letter for letter in ledger[1] if row not in letter[:2]))


def pairs_by_hand(ledger, later):
    """What is told of a late row by which the ledger would be the later one."""
    if placed(ledger)[0] == "quarrel":
        return ()
    if placed(later)[0] == "quarrel":
        return None
    pairs = itertools.combinations(rows_of(ledger), 2)
    return tuple(pair for pair in pairs if can_be(ledger, *pair) != can_be(later, *pair))


class TestMaking(unittest.TestCase):
    def test_houses_in_their_order(self):
        self.assertEqual(Keeper(HOUSES).ledger(), (tuple(house + ((),) for house in HOUSES), ()))
        self.assertEqual(Keeper(HOUSES[::-1]).ledger(), (tuple(house + ((),) for house in HOUSES[::-1]), ()))
        self.assertEqual(Keeper(HOUSES[:1]).ledger(), ((HOUSES[0] + ((),),), ()))
        six = tuple((name, 0, 0, 0) for name in "fedcba")
        self.assertEqual(Keeper(six).ledger(), (tuple(house + ((),) for house in six), ()))

    def test_what_are_no_houses(self):
        seven = tuple((name, 0, 0, 0) for name in "abcdefg")
        wrong = [(), seven, list(HOUSES), HOUSES[0], big(), big()[0], (HOUSES[0], HOUSES[1], HOUSES[0])]
        wrong += [(("ha", 0, 1, 2), ("ha", 3, 4, 5)), (("ha", 0, 1, 2, ()),), (("ha", 0, 1),), {"ha": (0, 1, 2)}]
        wrong += [put(HOUSES, (1,), list(HOUSES[1])), 0, 1, "ha", ("ha",), (("ha", 5, 4, 0),), (("ha", 0, 0, -1),)]
        for thing in wrong + odd_things():
            with self.subTest(kind=type(thing)):
                self.assertIs(refusal(Keeper, thing), NoHouse)

    def test_parts_of_other_kinds(self):
        for place, part in itertools.product(range(3), range(4)):
            for thing in odd_things() + ["Ha", "abcdefghi", (0,), [0]]:
                self.assertIs(refusal(Keeper, put(HOUSES, (place, part), thing)), NoHouse)
        for place in range(3):
            self.assertIs(refusal(Keeper, put(HOUSES, (place, 0), 7)), NoHouse)
            for part in range(1, 4):
                self.assertIs(refusal(Keeper, put(HOUSES, (place, part), "7")), NoHouse)
            for thing in odd_things():
                self.assertIs(refusal(Keeper, put(HOUSES, (place,), thing)), NoHouse)

    def test_edges(self):
        for house in (("h", 4, 4, 0), ("abcdefgh", -FAR, FAR, FAR)):
            self.assertEqual(Keeper((house,)).ledger(), ((house + ((),),), ()))


class TestTelling(unittest.TestCase):
    def test_runs_and_readings(self):
        keeper = Keeper(HOUSES)
        rows = [(9, "a", 1), (0, "b", 7), (4, "c", 5), (0, "d", -3), (4, "e", -5), (0, "f", 2), (4, "g", 0)]
        for run, name, reading in rows:
            self.assertEqual(keeper.tell("hb", run, name, reading), "kept")
        runs = ((("d", -3), ("f", 2), ("b", 7)), (("e", -5), ("g", 0), ("c", 5)), (("a", 1),))
        self.assertEqual(keeper.ledger(), ((HOUSES[0] + ((),), HOUSES[1] + (runs,), HOUSES[2] + ((),)), ()))

    def test_the_same_reading_elsewhere(self):
        keeper = Keeper(HOUSES)
        for name, (house, run) in zip("abcdef", itertools.product(("ha", "hb"), (0, 1, 2))):
            self.assertEqual(keeper.tell(house, run, name, 5), "kept")
        for name, (house, run) in zip("ghijkl", itertools.product(("ha", "hb"), (0, 1, 2))):
            self.assertIs(refusal(keeper.tell, house, run, name, 5), NoReading)
            self.assertEqual(keeper.tell(house, run, name, 4), "kept")

    def test_any_order_of_coming(self):
        chance = random.Random(61)
        ledgers = [big(), full_ledger(chance), full_ledger(chance, FAR - 200), full_quarrel(chance)]
        for ledger in ledgers + [small_ledger(chance) for _ in range(60)]:
            for _ in range(3):
                keeper = made_for(ledger)
                deeds = deeds_of(chance, ledger)
                answers = tell_all(keeper, deeds)
                self.assertEqual(answers, ["kept" if deed[0] == "tell" else None for deed in deeds])
                self.assertEqual(keeper.ledger(), ledger)
                self.assertEqual(keeper.ledger(), ledger)

    def test_a_ledger_behind_each_step(self):
        chance = random.Random(62)
        for ledger in (big(), full_ledger(chance)):
            keeper = made_for(ledger)
            rows, letters = [], []
            for deed in deeds_of(chance, ledger):
                tell_all(keeper, [deed])
                (rows if deed[0] == "tell" else letters).append(deed)
                told = keeper.ledger()
                self.assertTrue(is_ledger(told))
                names = [deed[3] for deed in rows]
                self.assertEqual(rows_of(told), tuple(sorted(names)))
                both = [deed[1:] for deed in letters if deed[1] in names and deed[2] in names]
                self.assertEqual(told[1], tuple(sorted(both)))

    def test_what_is_sure_stays_sure(self):
        chance = random.Random(63)
        seen = 0
        for _ in range(300):
            ledger = small_ledger(chance, 0.15)
            keeper = made_for(ledger)
            words = {}
            for deed in deeds_of(chance, ledger):
                tell_all(keeper, [deed])
                told = keeper.ledger()
                if placed(told)[0] == "quarrel":
                    break
                for pair in itertools.combinations(rows_of(told), 2):
                    now = can_be(told, *pair)
                    self.assertLessEqual(set(now), set(words.get(pair, now)))
                    seen += now != words.get(pair, now)
                    words[pair] = now
        self.assertGreater(seen, 5)

    def test_what_was_told_stays(self):
        keeper = crowd(3)
        first = keeper.ledger()
        known = copy.deepcopy(first)
        keeper.tell("hc", 0, "z", 1)
        keeper.letter("z", name_of(0), 1, None)
        self.assertEqual(first, known)
        self.assertNotEqual(keeper.ledger(), known)

    def test_what_is_handed_in_is_the_same_behind_it(self):
        houses = copy.deepcopy(HOUSES)
        keeper = Keeper(houses)
        keeper.tell("ha", 0, "x", 1)
        keeper.done("ha", 0, 5)
        keeper.tell("ha", 0, "y", 2)
        self.assertEqual(houses, HOUSES)
        odd = [["ha"], {"x": []}]
        for deed, things in ((Keeper, (odd,)), (keeper.tell, ("ha", 0, odd, odd)), (keeper.letter, (odd, "x", 1, odd)),
                             (keeper.done, ("ha", odd, odd))):
            self.assertIsNotNone(refusal(deed, *things))
            self.assertEqual(odd, [["ha"], {"x": []}])

    def test_two_keepers_by_turns(self):
        chance = random.Random(64)
        one, other = full_ledger(chance), full_ledger(chance)
        keepers = [made_for(one), made_for(other)]
        for pair in zip(deeds_of(chance, one), deeds_of(chance, other)):
            for keeper, deed in zip(keepers, pair):
                tell_all(keeper, [deed])
        self.assertEqual([keeper.ledger() for keeper in keepers], [one, other])
        alike = [Keeper(HOUSES), Keeper(HOUSES)]
        alike[0].tell("ha", 0, "x", 1)
        alike[0].done("ha", 5, 0)
        alike[0].letter("p", "q", 1, 1)
        self.assertEqual(alike[1].ledger(), Keeper(HOUSES).ledger())
        self.assertEqual(alike[1].tell("ha", 0, "x", 1), "kept")
        self.assertEqual(alike[1].tell("ha", 0, "p", 0), "kept")
        self.assertEqual(alike[1].tell("ha", 0, "q", 2), "kept")


class TestRefusedRows(unittest.TestCase):
    def refuses(self, kind, keeper, *things):
        """The row is refused so, twice, and the keeper's ledger is what it was."""
        before = keeper.ledger()
        for _ in range(2):
            with self.assertRaises(kind) as caught:
                keeper.tell(*things)
            self.assertIs(type(caught.exception), kind)
            if kind is NoRow:
                self.assertIs(caught.exception.name, things[2])
        self.assertEqual(keeper.ledger(), before)

    def test_another_house(self):
        for thing in odd_things() + ["hd", "h", "haa", "x", 0, 1, HOUSES[0], ("ha",), ["ha"]]:
            self.refuses(NoHouse, crowd(2), thing, 0, "x", 1)

    def test_what_is_no_runs_number(self):
        for thing in odd_things() + [-1, 10, 11, FAR, -FAR, "0", "ha", (0,), [0], True, False]:
            self.refuses(NoRun, crowd(2), "ha", thing, "x", 1)
        for run in range(10):
            self.assertEqual(crowd(2).tell("ha", run, "x", 100), "kept")

    def test_what_is_no_name(self):
        for thing in odd_things() + ["abcdefghi", "X", "x1", 0, 1, ("x",), ["x"], name_of(0), name_of(1)]:
            self.refuses(NoRow, crowd(2), "ha", 0, thing, 1)
            self.refuses(NoRow, crowd(2), "hb", 0, thing, 1)
        self.assertEqual(crowd(2).tell("ha", 0, "abcdefgh", 1), "kept")
        self.assertEqual(crowd(2).tell("ha", 0, "ha", 1), "kept")

    def test_what_is_no_reading(self):
        for thing in odd_things() + ["0", "x", (0,), [0], 1]:
            self.refuses(NoReading, crowd(2), "ha", 3, "x", thing)
        for thing in (0, -1, FAR, -FAR):
            self.assertEqual(crowd(2).tell("ha", 3, "x", thing), "kept")

    def test_the_25th_row(self):
        keeper = crowd(23)
        self.assertEqual(keeper.tell("hc", 0, "x", 5), "kept")
        for house, run in itertools.product(("ha", "hb", "hc"), (0, 3, 9)):
            self.refuses(TooMany, keeper, house, run, "y", 77)
        self.assertEqual(len(rows_of(keeper.ledger())), 24)

    def test_a_letter_within_a_house(self):
        for sent, taken in (("x", "y"), ("y", "x")):
            keeper = Keeper(HOUSES)
            keeper.letter(sent, taken, 1, None)
            self.assertEqual(keeper.tell("ha", 0, "x", 1), "kept")
            for run, reading in ((0, 2), (5, 1), (0, -2)):
                self.refuses(NoRow, keeper, "ha", run, "y", reading)
            self.assertEqual(keeper.tell("ha", 0, "z", 2), "kept")
            self.assertEqual(keeper.ledger()[1], ())
            self.assertEqual(keeper.tell("hb", 0, "y", 2), "kept")
            self.assertEqual(keeper.ledger()[1], ((sent, taken, 1, None),))

    def test_one_of_several_letters_within_a_house(self):
        keeper = Keeper(HOUSES)
        for other in "abc":
            keeper.letter("x", other, 1, None)
            keeper.letter(other, "x", 1, None)
        for house, other in zip(("ha", "hb", "hb"), "abc"):
            keeper.tell(house, 0, other, ord(other))
        self.refuses(NoRow, keeper, "ha", 0, "x", 1)
        self.refuses(NoRow, keeper, "hb", 0, "x", 1)
        self.assertEqual(keeper.tell("hc", 0, "x", 1), "kept")

    def test_the_same_name_behind_a_refusal(self):
        keeper = crowd(2)
        self.refuses(NoHouse, keeper, "hd", 0, "x", 1)
        self.refuses(NoRun, keeper, "ha", 10, "x", 1)
        self.refuses(NoReading, keeper, "ha", 3, "x", 1)
        self.refuses(NoRow, keeper, "ha", 3, name_of(0), 4)
        self.assertEqual(keeper.tell("ha", 3, "x", 4), "kept")
        self.refuses(NoRow, keeper, "ha", 3, "x", 4)
        self.refuses(NoRow, keeper, "hb", 7, "x", 9)

    def test_each_set_of_refusals_at_once(self):
        # By their places: what is wrong, and with what it is refused; ahead of them all what is right.
        houses = [("ha", None), ("hd", NoHouse), (None, NoHouse), ([], NoHouse)]
        runs = [(3, None), (10, NoRun), (True, NoRun), ({}, NoRun)]
        names = [("x", None), ("y", "within"), (name_of(0), NoRow), (None, NoRow), (["x"], NoRow)]
        readings = [(99, None), (1, "taken"), (None, NoReading), (True, NoReading), (Odd(), NoReading)]
        for full in (False, True):
            for house, run, name, reading in itertools.product(houses, runs, names, readings):
                keeper = crowd(24 if full else 6)
                keeper.letter(name_of(1), "y", 1, None)
                wrong = reading[1] if reading[1] != "taken" else NoReading
                order = [house[1], run[1], name[1] if name[1] != "within" else None, wrong, TooMany if full else None]
                order.append(NoRow if name[1] == "within" else None)
                first = next((kind for kind in order if kind), None)
                things = (house[0], run[0], name[0], reading[0])
                if first is None:
                    self.assertEqual(keeper.tell(*things), "kept")
                else:
                    self.refuses(first, keeper, *things)

    def test_late_or_not_the_same_is_refused(self):
        keeper = crowd(6)
        keeper.letter(name_of(1), "y", 1, None)
        keeper.done("ha", 9, FAR)
        self.refuses(NoHouse, keeper, "hd", 0, "x", 1)
        self.refuses(NoRun, keeper, "ha", 10, "x", 1)
        self.refuses(NoRow, keeper, "ha", 0, name_of(0), 1)
        self.refuses(NoReading, keeper, "ha", 3, "x", 1)
        self.refuses(NoRow, keeper, "ha", 0, "y", 1)
        keeper = crowd(24)
        keeper.done("ha", 9, FAR)
        self.refuses(TooMany, keeper, "ha", 0, "x", 1)


class TestLetters(unittest.TestCase):
    def refuses(self, keeper, *things):
        """The letter is refused, twice, and the keeper's ledger is what it was."""
        before = keeper.ledger()
        for _ in range(2):
            self.assertIs(refusal(keeper.letter, *things), NoLetter)
        self.assertEqual(keeper.ledger(), before)

    def test_told_ahead_and_behind(self):
        keeper = Keeper(HOUSES)
        self.assertIsNone(keeper.letter("x", "y", 1, None))
        self.assertEqual(keeper.ledger()[1], ())
        keeper.tell("ha", 0, "x", 1)
        self.assertEqual(keeper.ledger()[1], ())
        keeper.tell("hb", 0, "y", 1)
        self.assertEqual(keeper.ledger()[1], (("x", "y", 1, None),))
        self.assertIsNone(keeper.letter("y", "x", 2, 2))
        self.assertEqual(keeper.ledger()[1], (("x", "y", 1, None), ("y", "x", 2, 2)))

    def test_what_is_none(self):
        whole = ("x", "y", 2, 5)
        for place in range(4):
            for thing in odd_things() + [(0,), [0], "X", "abcdefghi"]:
                if place == 3 and thing is None:
                    continue
                self.refuses(crowd(2), *put(whole, (place,), thing))
        for thing in (0, 1, -1):
            self.refuses(crowd(2), thing, "y", 2, 5)
            self.refuses(crowd(2), "x", thing, 2, 5)
        for least, most in ((0, None), (-1, None), (0, 5), (2, 1), (5, 4), ("1", None), (1, "2"), (None, None), (1, True)):
            self.refuses(crowd(2), "x", "y", least, most)
        for least, most in ((1, None), (1, 1), (FAR, FAR), (2, 5)):
            self.assertIsNone(crowd(2).letter("x", "y", least, most))

    def test_of_a_name_to_itself(self):
        for name in ("x", name_of(0)):
            self.refuses(crowd(2), name, name, 1, None)

    def test_the_same_two_names(self):
        keeper = Keeper(HOUSES)
        keeper.letter("x", "y", 1, None)
        for least, most in ((1, None), (2, None), (1, 5)):
            self.refuses(keeper, "x", "y", least, most)
        self.assertIsNone(keeper.letter("y", "x", 1, None))
        self.refuses(keeper, "y", "x", 1, None)
        keeper.tell("ha", 0, "x", 1)
        keeper.tell("hb", 0, "y", 1)
        self.refuses(keeper, "x", "y", 1, None)
        self.assertEqual(keeper.ledger()[1], (("x", "y", 1, None), ("y", "x", 1, None)))

    def test_within_a_house(self):
        keeper = Keeper(HOUSES)
        for run, name in enumerate("xyz"):
            keeper.tell("ha", run, name, 1)
        for sent, taken in itertools.permutations("xyz", 2):
            self.refuses(keeper, sent, taken, 1, None)
        self.assertIsNone(keeper.letter("x", "w", 1, None))

    def test_the_25th(self):
        keeper = Keeper(HOUSES)
        for number in range(24):
            self.assertIsNone(keeper.letter(name_of(number), "x", 1, None))
        self.refuses(keeper, name_of(24), "x", 1, None)
        self.refuses(keeper, "x", name_of(0), 1, None)
        self.refuses(keeper, name_of(0), "x", 1, None)
        keeper.tell("hc", 0, "x", 0)
        for number in range(23):
            keeper.tell("ha", 0, name_of(number), number)
        self.assertEqual(len(keeper.ledger()[1]), 23)
        self.assertTrue(is_ledger(keeper.ledger()))

    def test_a_refused_letter_is_not_counted(self):
        keeper = Keeper(HOUSES)
        for number in range(23):
            keeper.letter(name_of(number), "x", 1, None)
            self.refuses(keeper, name_of(number), "x", 1, None)
            self.refuses(keeper, name_of(number), name_of(number), 1, None)
        self.assertIsNone(keeper.letter("y", "x", 1, None))

    def test_a_refused_letter_stays_away(self):
        keeper = Keeper(HOUSES)
        self.refuses(keeper, "x", "y", 0, None)
        keeper.tell("ha", 0, "x", 1)
        self.assertEqual(keeper.tell("ha", 0, "y", 2), "kept")


class TestDone(unittest.TestCase):
    def is_late(self, keeper, house, run, reading):
        """Whether a row told now is late; a late one isn't kept."""
        before = keeper.ledger()
        trial = copy.deepcopy(keeper)
        answer = trial.tell(house, run, "w", reading)
        if answer == "kept":
            self.assertIn("w", rows_of(trial.ledger()))
            return False
        self.assertIsInstance(answer, tuple)
        self.assertEqual(answer[0], "late")
        self.assertEqual(trial.ledger(), before)
        return True

    def lates(self, keeper, house="ha"):
        """Of which runs and readings rows are late now."""
        return [
            (run, reading) for run in (0, 3, 4, 5, 9) for reading in (-FAR, -1, 6, 7, 8, FAR)
            if self.is_late(keeper, house, run, reading)
        ]

    def up_to(self, run, reading):
        return [
            pair for pair in itertools.product((0, 3, 4, 5, 9), (-FAR, -1, 6, 7, 8, FAR)) if pair <= (run, reading)
        ]

    def test_by_run_and_by_reading(self):
        keeper = Keeper(HOUSES)
        self.assertEqual(self.lates(keeper), [])
        self.assertIsNone(keeper.done("ha", 4, 7))
        self.assertEqual(self.lates(keeper), self.up_to(4, 7))
        self.assertIn((4, 7), self.lates(keeper))
        self.assertNotIn((4, 8), self.lates(keeper))
        self.assertIn((3, FAR), self.lates(keeper))
        self.assertNotIn((5, -FAR), self.lates(keeper))

    def test_other_houses_are_not_done(self):
        keeper = Keeper(HOUSES)
        keeper.done("ha", 9, FAR)
        self.assertEqual(self.lates(keeper, "hb"), [])
        keeper.done("hb", 0, 6)
        self.assertEqual(self.lates(keeper, "hb"), self.up_to(0, 6))
        self.assertEqual(self.lates(keeper, "hc"), [])
        self.assertEqual(self.lates(keeper), self.up_to(9, FAR))

    def test_run_nought_and_readings_below_nought(self):
        keeper = Keeper(HOUSES)
        keeper.done("ha", 0, -1)
        self.assertEqual(self.lates(keeper), self.up_to(0, -1))
        keeper = Keeper(HOUSES)
        keeper.done("ha", 0, -FAR)
        self.assertEqual(self.lates(keeper), [(0, -FAR)])

    def test_done_again(self):
        keeper = Keeper(HOUSES)
        keeper.done("ha", 4, 7)
        for run, reading in ((4, 6), (4, 7), (3, 8), (3, FAR), (0, 0), (4, -FAR)):
            self.assertIsNone(keeper.done("ha", run, reading))
            self.assertEqual(self.lates(keeper), self.up_to(4, 7))
        keeper.done("ha", 4, 8)
        self.assertEqual(self.lates(keeper), self.up_to(4, 8))
        keeper.done("ha", 5, -1)
        self.assertEqual(self.lates(keeper), self.up_to(5, -1))

    def test_refusals_in_their_order(self):
        houses = ["hd", None, [], 0] + odd_things()
        runs = [-1, 10, True, "0", {}] + odd_things()
        readings = ["0", [0], ()] + odd_things()
        keeper = crowd(6)
        before = keeper.ledger()
        for thing in houses:
            self.assertIs(refusal(keeper.done, thing, 3, 1), NoHouse)
            self.assertIs(refusal(keeper.done, thing, -1, 1), NoHouse)
            self.assertIs(refusal(keeper.done, thing, 3, None), NoHouse)
            self.assertIs(refusal(keeper.done, thing, thing, thing), NoHouse)
        for thing in runs:
            self.assertIs(refusal(keeper.done, "ha", thing, 1), NoRun)
            self.assertIs(refusal(keeper.done, "ha", thing, None), NoRun)
        for thing in readings:
            self.assertIs(refusal(keeper.done, "ha", 3, thing), NoReading)
        self.assertEqual(keeper.ledger(), before)
        self.assertEqual(keeper.tell("ha", 0, "x", -FAR), "kept")

    def test_a_refusal_leaves_it_done_as_it_was(self):
        keeper = Keeper(HOUSES)
        keeper.done("ha", 4, 7)
        for things in (("hd", 5, 7), ("ha", 10, 7), ("ha", 5, None), ("ha", 5, True)):
            self.assertIsNotNone(refusal(keeper.done, *things))
        self.assertEqual(self.lates(keeper), self.up_to(4, 7))

    def test_a_reading_that_a_row_has_is_let(self):
        keeper = crowd(6)
        self.assertIsNone(keeper.done("ha", 3, 3))
        self.assertEqual(keeper.tell("ha", 3, "x", 2)[0], "late")
        self.assertEqual(keeper.tell("ha", 3, "x", 4), "kept")

    def test_rows_kept_stay(self):
        keeper = crowd(6)
        before = keeper.ledger()
        keeper.done("ha", 9, FAR)
        self.assertEqual(keeper.ledger(), before)


class TestLate(unittest.TestCase):
    def test_pairs_by_hand(self):
        # a and b can come either way, until c comes between them: behind a in its house, and by a letter ahead of b.
        keeper = Keeper((("ha", -50, 50, 9), ("hb", -50, 50, 9)))
        keeper.tell("ha", 1, "a", 0)
        keeper.tell("hb", 1, "b", 0)
        keeper.letter("c", "b", 1, None)
        keeper.done("ha", 1, 9)
        self.assertEqual(can_be(keeper.ledger(), "a", "b"), ("ahead", "at once", "behind"))
        self.assertEqual(keeper.tell("ha", 0, "c", 0), ("late", ()))
        self.assertEqual(keeper.tell("ha", 1, "c", 5), ("late", (("a", "b"),)))
        self.assertEqual(keeper.tell("ha", 1, "c", 5), ("late", (("a", "b"),)))
        self.assertEqual(rows_of(keeper.ledger()), ("a", "b"))
        self.assertEqual(can_be(keeper.ledger(), "a", "b"), ("ahead", "at once", "behind"))
        self.assertEqual(keeper.tell("ha", 1, "c", 10), "kept")
        self.assertEqual(can_be(keeper.ledger(), "a", "b"), ("ahead",))

    def test_letters_told_of_it_count_and_others_do_not(self):
        keeper = Keeper((("ha", -50, 50, 9), ("hb", -50, 50, 9)))
        keeper.tell("ha", 1, "a", 0)
        keeper.tell("hb", 1, "b", 0)
        keeper.done("ha", 9, 9)
        self.assertEqual(keeper.tell("ha", 1, "c", 5), ("late", ()))
        keeper.letter("d", "b", 1, None)
        self.assertEqual(keeper.tell("ha", 1, "c", 5), ("late", ()))
        self.assertEqual(keeper.tell("ha", 1, "d", 5), ("late", (("a", "b"),)))

    def test_without_other_rows(self):
        keeper = Keeper(HOUSES)
        keeper.done("ha", 0, 5)
        self.assertEqual(keeper.tell("ha", 0, "x", 5), ("late", ()))
        self.assertEqual(keeper.ledger(), Keeper(HOUSES).ledger())

    def test_none_where_it_would_quarrel(self):
        keeper = Keeper((("ha", 0, 0, 0),))
        keeper.tell("ha", 1, "a", 5)
        keeper.done("ha", 0, 9)
        self.assertEqual(keeper.tell("ha", 0, "b", 5), ("late", None))
        self.assertEqual(keeper.tell("ha", 0, "b", 9), ("late", None))
        self.assertEqual(keeper.tell("ha", 0, "b", 4), ("late", ()))
        self.assertEqual(keeper.tell("ha", 0, "b", 10), "kept")

    def test_nothing_of_a_keeper_that_quarrels(self):
        keeper = Keeper((("ha", 0, 0, 0), ("hb", -9, 9, 0)))
        keeper.tell("ha", 1, "a", 5)
        keeper.tell("ha", 2, "b", 5)
        keeper.tell("hb", 0, "c", 5)
        self.assertEqual(placed(keeper.ledger())[0], "quarrel")
        keeper.done("ha", 9, 9)
        for run, reading in ((0, 5), (0, 0), (9, 9), (1, 6)):
            self.assertEqual(keeper.tell("ha", run, "d", reading), ("late", ()))
        self.assertEqual(keeper.tell("hb", 0, "d", 0), "kept")

    def test_several_pairs_rising(self):
        keeper = Keeper((("ha", -50, 50, 99), ("hb", -50, 50, 99)))
        for reading, name in enumerate("dbz"):
            keeper.tell("ha", 0, name, reading)
        for reading, name in enumerate("ace"):
            keeper.tell("hb", 0, name, reading)
        keeper.letter("x", "a", 1, None)
        keeper.done("ha", 9, 9)
        kind, pairs = keeper.tell("ha", 1, "x", 0)
        self.assertEqual(kind, "late")
        self.assertEqual(pairs, tuple(sorted(tuple(sorted(pair)) for pair in itertools.product("dbz", "ace"))))
        self.assertIsInstance(pairs, tuple)

    def test_against_the_ledgers_with_it_and_without(self):
        chance = random.Random(65)
        seen = {"none": 0, "empty": 0, "pairs": 0}
        for _ in range(1500):
            ledger = small_ledger(chance, 0.2)
            if not rows_of(ledger):
                continue
            late = chance.choice(rows_of(ledger))
            deeds = deeds_of(chance, ledger)
            last = [deed for deed in deeds if deed[0] == "tell" and deed[3] == late][0]
            keeper = made_for(ledger)
            tell_all(keeper, [deed for deed in deeds if deed != last])
            keeper.done(last[1], last[2], last[4])
            shorter = without(ledger, late)
            self.assertEqual(keeper.ledger(), shorter)
            known = pairs_by_hand(shorter, ledger)
            for _ in range(2):
                self.assertEqual(tell_all(keeper, [last]), [("late", known)])
            self.assertEqual(keeper.ledger(), shorter)
            seen["none" if known is None else "pairs" if known else "empty"] += 1
        self.assertGreater(min(seen.values()), 9)

    def test_of_24_rows(self):
        chance = random.Random(66)
        ledger = full_ledger(chance)
        late = chance.choice([letter[0] for letter in ledger[1]])
        deeds = deeds_of(chance, ledger)
        last = [deed for deed in deeds if deed[0] == "tell" and deed[3] == late][0]
        keeper = made_for(ledger)
        tell_all(keeper, [deed for deed in deeds if deed != last])
        keeper.done(last[1], 9, 0)
        self.assertEqual(tell_all(keeper, [last]), [("late", pairs_by_hand(without(ledger, late), ledger))])

    def test_the_name_of_a_late_row_is_free(self):
        keeper = Keeper(HOUSES)
        keeper.done("ha", 0, 5)
        self.assertEqual(keeper.tell("ha", 0, "x", 5)[0], "late")
        self.assertEqual(keeper.tell("hb", 0, "x", 5), "kept")
        self.assertIs(refusal(keeper.tell, "ha", 0, "x", 5), NoRow)


if __name__ == "__main__":
    unittest.main()
