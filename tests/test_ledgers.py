import unittest

from skewbooks.ledgers import is_ledger, rows_of
from tests.helper import at, big, odd_things, one_house, put, same_behind

TUPLES = [
    (), (0,), (0, 0), (0, 0, 4), (0, 0, 4, 0), (0, 0, 4, 0, 0), (1,), (1, 0),
]
NAMES = [(0, 0, 0), (0, 0, 4, 0, 0, 0), (1, 0, 0), (1, 0, 1)]
NUMBERS = [(0, 0, 1), (0, 0, 2), (0, 0, 3), (0, 0, 4, 0, 0, 1), (1, 0, 2), (1, 0, 3)]


def spread(counts):
    """A ledger with a house of each count of rows, one run each, and the names of its rows house by house."""
    names = [[chr(97 + place) + chr(97 + k) for k in range(count)] for place, count in enumerate(counts)]
    houses = []
    for place, rows in enumerate(names):
        runs = (tuple((name, k) for k, name in enumerate(rows)),) if rows else ()
        houses.append(("h" + chr(97 + place), -9, 9, 1, runs))
    return (tuple(houses), ()), names


class LedgerTest(unittest.TestCase):
    def takes(self, thing):
        self.assertIs(same_behind(self, is_ledger, thing), True, thing)

    def refuses(self, thing):
        self.assertIs(same_behind(self, is_ledger, thing), False, thing)


class TestForm(LedgerTest):
    def test_ordinary_ones(self):
        self.takes(big())
        self.takes(((("a", 0, 0, 0, ()),), ()))
        self.takes(one_house(-1, 2, 3, (("x", 5), ("y", 7)), (("z", 2),)))

    def test_a_part_left_out(self):
        for path in TUPLES:
            whole = at(big(), path)
            if path not in ((0,), (1,), (0, 0, 4), (0, 0, 4, 0)):
                for place in range(len(whole)):
                    with self.subTest(path=path, place=place):
                        self.refuses(put(big(), path, whole[:place] + whole[place + 1:]))

    def test_a_part_more(self):
        for path in TUPLES:
            whole = at(big(), path)
            for more in (0, None, (), "a", whole):
                with self.subTest(path=path, more=more):
                    self.refuses(put(big(), path, whole + (more,)))
                    self.refuses(put(big(), path, (more,) + whole))

    def test_a_list_for_a_tuple(self):
        for path in TUPLES:
            with self.subTest(path):
                self.refuses(put(big(), path, list(at(big(), path))))

    def test_parts_of_other_kinds(self):
        for path in TUPLES + NAMES + NUMBERS:
            for thing in odd_things():
                if thing is None and path == (1, 0, 3):
                    continue
                with self.subTest(path=path, kind=type(thing)):
                    self.assertIs(is_ledger(put(big(), path, thing)), False)

    def test_numbers_for_names_and_names_for_numbers(self):
        for path in NAMES:
            for number in (0, 1, -1):
                self.refuses(put(big(), path, number))
        for path in NUMBERS:
            for text in ("a", "1", "x"):
                self.refuses(put(big(), path, text))
        for path in TUPLES:
            for thing in (0, 2, "ab", "abcd", "abcde"):
                self.refuses(put(big(), path, thing))

    def test_truths_for_numbers(self):
        # Each would be a ledger with 1 or 0 in the truth's place.
        plain = (
            (("a", 0, 1, 1, ((("r", 1),),)), ("b", 0, 1, 1, ((("s", 1),),))),
            (("r", "s", 1, 1),),
        )
        self.takes(plain)
        for path in NUMBERS:
            with self.subTest(path):
                self.refuses(put(plain, path, True))
        for path in ((0, 0, 1), (0, 0, 3), (0, 0, 4, 0, 0, 1)):
            self.takes(put(plain, path, 0))
            self.refuses(put(plain, path, False))

    def test_things_of_any_kind(self):
        for thing in odd_things() + [0, "ledger", big()[0], big()[1], list(big()), dict([big()])]:
            with self.subTest(kind=type(thing)):
                self.assertIs(is_ledger(thing), False)


class TestHouses(LedgerTest):
    def test_how_many_houses(self):
        for many in (1, 2, 6):
            self.takes(spread([1] * many)[0])
            self.takes(spread([0] * many)[0])
        for many in (0, 7, 8):
            self.refuses(spread([1] * many)[0])
            self.refuses(spread([0] * many)[0])

    def test_wrong_names(self):
        for path in NAMES[:2]:
            for name in ("", "a" * 9, "Ab", "a1", "a b", "ab\n"):
                with self.subTest(path=path, name=name):
                    self.refuses(put(big(), path, name))

    def test_low_and_high(self):
        self.takes(one_house(3, 3, 0))
        self.takes(one_house(-4, -3, 0))
        self.refuses(one_house(4, 3, 0))
        self.refuses(one_house(-3, -4, 0))

    def test_drift(self):
        self.takes(one_house(0, 0, 0))
        self.takes(one_house(0, 0, 10 ** 9))
        self.refuses(one_house(0, 0, -1))

    def test_nothing_is_refused_for_great_numbers(self):
        far = 10 ** 12
        self.takes(one_house(-far, far, far, (("x", -far), ("y", far))))

    def test_two_houses_of_one_name(self):
        house, other = ("a", 0, 1, 0, ()), ("b", 0, 1, 0, ())
        self.takes(((house, other), ()))
        self.refuses(((house, house), ()))
        self.refuses(((house, other, ("a", 5, 6, 1, ((("x", 1),),))), ()))

    def test_houses_needn_t_rise(self):
        self.takes(((("b", 0, 1, 0, ()), ("a", 0, 1, 0, ())), ()))

    def test_a_row_may_be_called_like_a_house(self):
        self.takes(one_house(0, 0, 0, (("h", 1),)))

    def test_two_rows_of_one_name(self):
        self.refuses(one_house(0, 1, 0, (("x", 1), ("x", 2))))
        self.refuses(one_house(0, 1, 0, (("x", 1),), (("x", 2),)))
        self.refuses(one_house(0, 1, 0, (("x", 1),), (("x", 1),)))
        runs = ((("x", 1),),)
        self.refuses(((("a", 0, 1, 0, runs), ("b", 0, 1, 0, runs)), ()))

    def test_readings_rise_within_a_run(self):
        self.takes(one_house(0, 1, 0, (("x", -1), ("y", 0), ("z", 1))))
        self.refuses(one_house(0, 1, 0, (("x", 1), ("y", 1))))
        self.refuses(one_house(0, 1, 0, (("x", 2), ("y", 1))))
        self.refuses(one_house(0, 1, 0, (("x", 1), ("y", 3), ("z", 2))))
        self.refuses(one_house(0, 1, 0, (("v", 0),), (("x", 1), ("y", 3), ("z", 3))))

    def test_readings_needn_t_rise_from_run_to_run(self):
        self.takes(one_house(0, 1, 0, (("x", 5),), (("y", 5),), (("z", 1),)))

    def test_names_needn_t_rise(self):
        self.takes(one_house(0, 1, 0, (("z", 1), ("a", 2))))

    def test_runs(self):
        self.takes(one_house(0, 1, 0))
        self.refuses(one_house(0, 1, 0, ()))
        self.refuses(one_house(0, 1, 0, (("x", 1),), ()))
        self.refuses(one_house(0, 1, 0, (), (("x", 1),)))

    def test_how_many_rows(self):
        for counts in ([24], [12, 12], [4] * 6, [23, 1], [0, 24]):
            self.takes(spread(counts)[0])
        for counts in ([25], [12, 13], [5, 4, 4, 4, 4, 4], [24, 1], [1, 24]):
            self.refuses(spread(counts)[0])
        names = [chr(97 + k) for k in range(25)]
        runs = [((name, 0),) for name in names]
        self.takes(one_house(0, 1, 0, *runs[:24]))
        self.refuses(one_house(0, 1, 0, *runs))


class TestLetters(LedgerTest):
    def with_letters(self, *letters):
        houses = (
            ("a", 0, 1, 0, ((("r", 1), ("s", 2)), (("t", 1),))),
            ("b", 0, 1, 0, ((("u", 1), ("v", 2)),)),
            ("c", 0, 1, 0, ((("w", 1),),)),
        )
        return (houses, letters)

    def test_ordinary_ones(self):
        self.takes(self.with_letters())
        self.takes(self.with_letters(("r", "u", 1, 1), ("r", "v", 1, None), ("s", "u", 5, 9), ("u", "r", 1, None)))

    def test_out_of_order(self):
        self.refuses(self.with_letters(("s", "u", 1, 1), ("r", "u", 1, 1)))
        self.refuses(self.with_letters(("r", "v", 1, 1), ("r", "u", 1, 1)))
        self.refuses(self.with_letters(("r", "u", 1, 1), ("u", "r", 1, 1), ("s", "u", 1, 1)))

    def test_twice(self):
        self.refuses(self.with_letters(("r", "u", 1, 1), ("r", "u", 1, 1)))
        self.refuses(self.with_letters(("r", "u", 1, 1), ("r", "u", 2, 2)))
        self.refuses(self.with_letters(("r", "u", 1, 1), ("r", "u", 1, None)))

    def test_within_a_house(self):
        self.refuses(self.with_letters(("r", "s", 1, 1)))
        self.refuses(self.with_letters(("r", "t", 1, 1)))
        self.refuses(self.with_letters(("v", "u", 1, None)))
        self.refuses(self.with_letters(("r", "w", 1, 1), ("u", "v", 1, 1)))

    def test_of_a_row_to_itself(self):
        self.refuses(self.with_letters(("r", "r", 1, 1)))
        self.refuses(self.with_letters(("w", "w", 1, None)))

    def test_of_no_row(self):
        self.refuses(self.with_letters(("r", "x", 1, 1)))
        self.refuses(self.with_letters(("q", "r", 1, 1)))
        self.refuses(self.with_letters(("x", "y", 1, 1)))
        self.refuses(self.with_letters(("a", "b", 1, 1)))

    def test_least_and_most(self):
        for least, most in ((1, 1), (1, 2), (1, None), (7, 7), (7, None), (10 ** 9, 10 ** 9)):
            self.takes(self.with_letters(("r", "u", least, most)))
        for least, most in ((0, 1), (0, None), (-1, 5), (2, 1), (7, 6), (7, 0), (1, 0), (1, -1), (None, None), (None, 1)):
            self.refuses(self.with_letters(("r", "u", least, most)))

    def test_how_many_letters(self):
        ledger, (some, others) = spread([5, 5])
        pairs = sorted((sent, taken) for sent in some for taken in others)
        letters = tuple((sent, taken, 1, None) for sent, taken in pairs)
        self.assertEqual(len(letters), 25)
        self.takes((ledger[0], letters[:24]))
        self.takes((ledger[0], letters[1:]))
        self.refuses((ledger[0], letters))


class TestRowsOf(unittest.TestCase):
    def test_rising(self):
        self.assertEqual(same_behind(self, rows_of, big()), ("p", "q", "v", "x", "y", "z"))
        self.assertEqual(rows_of(one_house(0, 1, 0, (("b", 1), ("ab", 2)), (("a", 0), ("ba", 3)))), ("a", "ab", "b", "ba"))

    def test_without_rows(self):
        self.assertEqual(rows_of(one_house(0, 1, 0)), ())
        self.assertIsInstance(rows_of(one_house(0, 1, 0)), tuple)

    def test_as_many_as_can_be(self):
        ledger, names = spread([4] * 6)
        self.assertEqual(rows_of(ledger), tuple(sorted(sum(names, []))))


if __name__ == "__main__":
    unittest.main()
