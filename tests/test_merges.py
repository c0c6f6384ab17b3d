import itertools
import random
import unittest

from skewbooks.errors import NoMerge
from skewbooks.ledgers import is_ledger
from skewbooks.merges import merged
from skewbooks.settling import placed
from tests.helper import big, full_ledger, one_house, same_behind, small_ledger

# The clock of a house whose rows can be put anywhere.
WIDE = ("g", -50, 50, 9)


def house(clock, *runs):
    """A house of a clock (name, low, high, drift) and runs."""
    return clock + (runs,)


def ledger_of(*houses, letters=()):
    return (tuple(houses), tuple(letters))


def by_parts(ledger):
    """What the ledger says, whatever the order of its houses."""
    return (sorted(ledger[0]), ledger[1])


def parts_of(ledger):
    """All rows as (house, run, name, reading), all letters and all clocks of the ledger, as sets."""
    rows = {
        (name, number, row, reading)
        for name, _, _, _, runs in ledger[0] for number, run in enumerate(runs) for row, reading in run
    }
    return (rows, set(ledger[1]), {house[:4] for house in ledger[0]})


class TestMerged(unittest.TestCase):
    def both(self, one, other):
        """The two merged, the same whichever comes first but for the order of houses. Gives it."""
        self.assertTrue(is_ledger(one) and is_ledger(other))
        told = same_behind(self, merged, one, other)
        self.assertTrue(is_ledger(told))
        self.assertEqual(by_parts(merged(other, one)), by_parts(told))
        names = [house[0] for house in one[0]]
        later = [house[0] for house in other[0] if house[0] not in names]
        self.assertEqual([house[0] for house in told[0]], names + later)
        for part, mine, yours in zip(parts_of(told), parts_of(one), parts_of(other)):
            self.assertEqual(part, mine | yours)
        return told

    def test_no_house_in_common(self):
        one = ledger_of(house(WIDE, (("x", 5),)), house(("b", 0, 0, 0)))
        other = ledger_of(house(("c", 0, 3, 1), (("y", 2), ("z", 3))), house(("a", 1, 1, 1), (("w", 3),)))
        self.assertEqual(self.both(one, other), ledger_of(*one[0], *other[0]))

    def test_letters_of_both(self):
        one = ledger_of(house(WIDE, (("x", 5),)), house(("b", 0, 9, 0), (("y", 9),)), letters=[("x", "y", 2, 6)])
        other = ledger_of(house(("c", 0, 9, 1), (("p", 2),)), house(("a", 1, 9, 1), (("q", 3),)), letters=[("q", "p", 1, None)])
        self.assertEqual(self.both(one, other)[1], (("q", "p", 1, None), ("x", "y", 2, 6)))

    def test_some_houses_in_common(self):
        one = ledger_of(house(("a", 0, 9, 0)), house(WIDE, (("x", 5), ("z", 9))))
        other = ledger_of(house(("b", 0, 9, 0)), house(WIDE, (("y", 7),)))
        told = ledger_of(house(("a", 0, 9, 0)), house(WIDE, (("x", 5), ("y", 7), ("z", 9))), house(("b", 0, 9, 0)))
        self.assertEqual(self.both(one, other), told)

    def test_all_houses_in_common(self):
        one = ledger_of(house(WIDE, (("x", 5),)), house(("h", 0, 9, 0), (("p", 1),)), letters=[("p", "x", 1, None)])
        other = ledger_of(house(("h", 0, 9, 0), (("q", 3),)), house(WIDE, (("w", -5),)), letters=[("w", "q", 2, 2)])
        told = ledger_of(
            house(WIDE, (("w", -5), ("x", 5))), house(("h", 0, 9, 0), (("p", 1), ("q", 3))),
            letters=[("p", "x", 1, None), ("w", "q", 2, 2)],
        )
        self.assertEqual(self.both(one, other), told)

    def test_rows_by_their_readings_not_by_their_names(self):
        one = ledger_of(house(WIDE, (("z", -10), ("x", 5), ("a", 10 ** 9))))
        other = ledger_of(house(WIDE, (("y", -9), ("b", 4), ("c", 6))))
        rows = (("z", -10), ("y", -9), ("b", 4), ("x", 5), ("c", 6), ("a", 10 ** 9))
        self.assertEqual(self.both(one, other), ledger_of(house(WIDE, rows)))

    def test_runs_that_one_lacks(self):
        none, one = ledger_of(house(WIDE)), ledger_of(house(WIDE, (("x", 5),)))
        three = ledger_of(house(WIDE, (("p", 4),), (("q", 4),), (("r", 1),)))
        self.assertEqual(self.both(none, none), none)
        self.assertEqual(self.both(none, one), one)
        self.assertEqual(self.both(none, three), three)
        told = ledger_of(house(WIDE, (("p", 4), ("x", 5)), (("q", 4),), (("r", 1),)))
        self.assertEqual(self.both(one, three), told)

    def test_a_first_run_in_common_and_a_second_that_one_lacks(self):
        one = ledger_of(house(WIDE, (("x", 5), ("y", 7))))
        other = ledger_of(house(WIDE, (("x", 5), ("y", 7)), (("z", 2),)))
        self.assertEqual(self.both(one, other), other)
        self.assertEqual(self.both(other, one), other)

    def test_readings_of_unlike_runs_are_their_own(self):
        one = ledger_of(house(WIDE, (("x", 5),), (("y", 5),)))
        other = ledger_of(house(WIDE, (("p", 9),), (("q", -9),)))
        self.assertEqual(self.both(one, other), ledger_of(house(WIDE, (("x", 5), ("p", 9)), (("q", -9), ("y", 5)))))

    def test_the_same_row_and_the_same_letter_are_one(self):
        one = big()
        less = (one[0], one[1][1:])
        self.assertEqual(self.both(one, less), one)
        self.assertEqual(self.both(less, one), one)
        self.assertEqual(self.both((one[0], one[1][:1]), less), one)

    def test_with_itself(self):
        chance = random.Random(41)
        for ledger in [big(), one_house(0, 0, 0), full_ledger(chance)] + [small_ledger(chance) for _ in range(50)]:
            self.assertEqual(self.both(ledger, ledger), ledger)

    def test_one_that_quarrels_is_told(self):
        one = ledger_of(house(("g", 0, 0, 0), (("x", 5),)), house(("h", 0, 0, 0), (("y", 9),)), letters=[("x", "y", 1, None)])
        other = ledger_of(house(("g", 0, 0, 0), (("x", 5),)), house(("h", 0, 0, 0), (("z", 7),)), letters=[("z", "x", 1, None)])
        self.assertEqual(placed(one)[0], "placing")
        self.assertEqual(placed(self.both(one, other))[0], "quarrel")
        self.assertEqual(placed(self.both(other, other))[0], "quarrel")

    def test_six_houses_24_rows_24_letters(self):
        whole = full_ledger(random.Random(42))
        houses, letters = whole
        one = (tuple(house[:4] + (house[4][:1],) for house in houses), ())
        self.assertEqual(self.both(one, (houses, letters)), whole)
        self.assertEqual(self.both((houses, letters[::2]), (houses, letters[1::2])), whole)
        self.assertEqual(self.both((houses[:3], ()), (houses[3:], ())), (houses, ()))

    def test_a_ledger_parted_by_chance(self):
        chance = random.Random(43)
        for _ in range(150):
            houses, letters = small_ledger(chance)
            halves = []
            for _ in range(2):
                # Only rows behind all first ones of a run are left out, so that the runs keep their numbers.
                some = tuple(
                    house[:4] + (tuple(run[:1] + tuple(row for row in run[1:] if chance.random() < 0.5) for run in house[4]),)
                    for house in houses
                )
                known = {row for house in some for run in house[4] for row, _ in run}
                halves.append((some, tuple(one for one in letters if {one[0], one[1]} <= known and chance.random() < 0.7)))
            told = self.both(*halves)
            self.assertLessEqual(parts_of(told)[0], parts_of((houses, letters))[0])


class TestNoMerge(unittest.TestCase):
    def refuses(self, one, other):
        self.assertTrue(is_ledger(one) and is_ledger(other), (one, other))
        for first, second in ((one, other), (other, one)) * 2:
            before = repr((first, second))
            with self.assertRaises(NoMerge):
                merged(first, second)
            self.assertEqual(repr((first, second)), before)

    def test_another_clock(self):
        one = ledger_of(house(("g", -5, 5, 2), (("x", 5),)))
        for clock in (
            ("g", -6, 5, 2), ("g", -4, 5, 2), ("g", -5, 6, 2), ("g", -5, 4, 2), ("g", -5, 5, 1), ("g", -5, 5, 3),
        ):
            self.refuses(one, ledger_of(house(clock, (("x", 5),))))
            self.refuses(one, ledger_of(house(clock)))
            self.refuses(one, ledger_of(house(("h", 0, 0, 0)), house(clock, (("y", 7),))))

    def test_two_rows_of_one_name(self):
        one = ledger_of(house(WIDE, (("x", 5),), (("y", 7),)))
        self.refuses(one, ledger_of(house(WIDE, (("x", 6),))))
        self.refuses(one, ledger_of(house(WIDE, (("y", 7),))))
        self.refuses(one, ledger_of(house(WIDE, (("p", 1),), (("x", 5),))))
        self.refuses(one, ledger_of(house(WIDE, (("p", 1),), (("q", 5),), (("y", 7),))))
        self.refuses(one, ledger_of(house(("h", -50, 50, 9), (("x", 5),))))
        self.refuses(one, ledger_of(house(WIDE), house(("h", -50, 50, 9), (("y", 7),))))

    def test_the_same_reading_twice_in_a_run(self):
        one = ledger_of(house(WIDE, (("x", 5), ("z", 8)), (("y", 7),)))
        self.refuses(one, ledger_of(house(WIDE, (("p", 5),))))
        self.refuses(one, ledger_of(house(WIDE, (("p", 4), ("q", 8)))))
        self.refuses(one, ledger_of(house(WIDE, (("p", 4),), (("q", 7),))))

    def test_letters_that_are_not_alike(self):
        houses = (house(WIDE, (("x", 5),)), house(("h", 0, 9, 0), (("y", 9),)))
        kinds = [("x", "y", 1, None), ("x", "y", 2, None), ("x", "y", 1, 1), ("x", "y", 1, 2), ("x", "y", 2, 2)]
        for letter, other in itertools.combinations(kinds, 2):
            self.refuses((houses, (letter,)), (houses, (other,)))
        both = (("x", "y", 1, None), ("y", "x", 2, 3))
        self.assertEqual(merged((houses, both[:1]), (houses, both[1:])), (houses, both))

    def test_too_many_houses(self):
        def some(names):
            return ledger_of(*[house((name, 0, 0, 0)) for name in names])
        self.assertEqual(len(merged(some("abc"), some("def"))[0]), 6)
        self.assertEqual(len(merged(some("abcdef"), some("fedcba"))[0]), 6)
        self.refuses(some("abcd"), some("efg"))
        self.refuses(some("abcdef"), some("g"))

    def test_too_many_rows(self):
        names = [a + b for a in "abcde" for b in "vwxyz"]
        rows = tuple(zip(names, range(25)))
        self.assertEqual(merged(one_house(0, 0, 0, rows[:12]), one_house(0, 0, 0, rows[12:24])), one_house(0, 0, 0, rows[:24]))
        self.assertEqual(merged(one_house(0, 0, 0, rows[:20]), one_house(0, 0, 0, rows[4:24])), one_house(0, 0, 0, rows[:24]))
        self.refuses(one_house(0, 0, 0, rows[:12]), one_house(0, 0, 0, rows[12:]))
        self.refuses(one_house(0, 0, 0, rows[:24]), one_house(0, 0, 0, rows[1:]))

    def test_too_many_letters(self):
        mine, yours = "abcde", "vwxyz"
        houses = (
            house(WIDE, tuple(zip(mine, range(5)))), house(("h", 0, 9, 0), tuple(zip(yours, range(5)))),
        )
        letters = tuple((sent, taken, 1, None) for sent in mine for taken in yours)
        self.assertEqual(merged((houses, letters[:13]), (houses, letters[13:24])), (houses, letters[:24]))
        self.assertEqual(merged((houses, letters[:20]), (houses, letters[4:24])), (houses, letters[:24]))
        self.refuses((houses, letters[:13]), (houses, letters[13:]))
        self.refuses((houses, letters[:24]), (houses, letters[1:]))

    def test_a_letter_that_comes_to_be_within_a_house(self):
        one = ledger_of(house(WIDE, (("x", 5),)), house(("h", 0, 9, 0), (("y", 9),)), letters=[("x", "y", 1, None)])
        self.refuses(one, ledger_of(house(WIDE, (("y", 9),))))
        self.refuses(one, ledger_of(house(("h", 0, 9, 0), (("x", 5),))))


if __name__ == "__main__":
    unittest.main()
