import unittest

from skewbooks.ledgers import is_ledger, is_placing, rows_of
from tests.helper import big, odd_things, one_house, put, same_behind, two_rows

FAR = 10 ** 6


def placing_of(moments):
    return tuple(sorted(moments.items()))


class PlacingTest(unittest.TestCase):
    def takes(self, ledger, **moments):
        self.assertTrue(is_ledger(ledger))
        self.assertIs(same_behind(self, is_placing, ledger, placing_of(moments)), True, moments)

    def refuses(self, ledger, **moments):
        self.assertTrue(is_ledger(ledger))
        self.assertEqual(tuple(sorted(moments)), rows_of(ledger))
        self.assertIs(same_behind(self, is_placing, ledger, placing_of(moments)), False, moments)


class TestClock(PlacingTest):
    def test_low_and_high_of_one_row(self):
        ledger = one_house(-2, 3, 0, (("x", 10),))
        for moment in range(7, 13):
            self.takes(ledger, x=moment)
        self.refuses(ledger, x=6)
        self.refuses(ledger, x=13)

    def test_low_and_high_alike(self):
        ledger = one_house(4, 4, 0, (("x", 10),))
        self.takes(ledger, x=6)
        self.refuses(ledger, x=5)
        self.refuses(ledger, x=7)

    def test_low_and_high_of_later_rows_and_runs(self):
        ledger = one_house(-2, 3, 99, (("x", 10), ("y", 20)), (("z", 30),))
        self.takes(ledger, x=10, y=17, z=32)
        self.takes(ledger, x=10, y=22, z=27)
        self.refuses(ledger, x=10, y=16, z=30)
        self.refuses(ledger, x=10, y=23, z=30)
        self.refuses(ledger, x=10, y=20, z=26)
        self.refuses(ledger, x=10, y=20, z=33)

    def test_each_house_by_its_own_clock(self):
        houses = (("a", 0, 1, 0, ((("x", 5),),)), ("b", 10, 11, 0, ((("y", 5),),)))
        ledger = (houses, ())
        self.takes(ledger, x=4, y=-5)
        self.takes(ledger, x=5, y=-6)
        self.refuses(ledger, x=4, y=-4)
        self.refuses(ledger, x=6, y=-5)


class TestNeighbours(PlacingTest):
    def test_within_a_run(self):
        ledger = one_house(-FAR, FAR, FAR, (("x", 0), ("y", 1), ("z", 2)))
        self.takes(ledger, x=5, y=6, z=7)
        self.refuses(ledger, x=5, y=5, z=7)
        self.refuses(ledger, x=5, y=7, z=7)
        self.refuses(ledger, x=5, y=4, z=7)

    def test_from_run_to_run(self):
        ledger = one_house(-FAR, FAR, FAR, (("x", 0), ("y", 1)), (("z", 0),), (("v", -9),))
        self.takes(ledger, x=5, y=6, z=7, v=8)
        self.refuses(ledger, x=5, y=6, z=6, v=8)
        self.refuses(ledger, x=5, y=6, z=5, v=8)
        self.refuses(ledger, x=5, y=6, z=8, v=8)

    def test_not_between_houses(self):
        houses = (("a", -FAR, FAR, 0, ((("x", 0),),)), ("b", -FAR, FAR, 0, ((("y", 0),),)))
        for x, y in ((0, 0), (1, 0), (0, 1)):
            self.takes((houses, ()), x=x, y=y)


class TestDrift(PlacingTest):
    def test_of_neighbours(self):
        ledger = one_house(-FAR, FAR, 3, (("x", 0), ("y", 10)))
        for y in range(7, 14):
            self.takes(ledger, x=0, y=y)
        self.refuses(ledger, x=0, y=6)
        self.refuses(ledger, x=0, y=14)

    def test_none(self):
        ledger = one_house(-FAR, FAR, 0, (("x", 0), ("y", 10)))
        self.takes(ledger, x=-7, y=3)
        self.refuses(ledger, x=-7, y=2)
        self.refuses(ledger, x=-7, y=4)

    def test_of_rows_that_are_no_neighbours(self):
        ledger = one_house(-FAR, FAR, 2, (("x", 0), ("y", 10), ("z", 20)))
        self.takes(ledger, x=0, y=11, z=22)
        self.refuses(ledger, x=0, y=11, z=23)
        self.takes(ledger, x=0, y=9, z=18)
        self.refuses(ledger, x=0, y=9, z=17)

    def test_of_rows_within_the_run(self):
        ledger = one_house(-FAR, FAR, 2, (("u", 0), ("v", 10), ("w", 20), ("x", 30), ("y", 40)))
        self.takes(ledger, u=0, v=9, w=20, x=31, y=40)
        self.refuses(ledger, u=0, v=9, w=20, x=32, y=40)
        self.refuses(ledger, u=0, v=11, w=20, x=28, y=40)

    def test_not_from_run_to_run(self):
        ledger = one_house(-FAR, FAR, 0, (("x", 0),), (("y", 10),))
        self.takes(ledger, x=0, y=1)
        self.takes(ledger, x=0, y=500)

    def test_each_run_by_itself(self):
        ledger = one_house(-FAR, FAR, 1, (("x", 0), ("y", 10)), (("z", 0), ("v", 10)))
        self.takes(ledger, x=0, y=11, z=50, v=59)
        self.refuses(ledger, x=0, y=11, z=50, v=58)
        self.refuses(ledger, x=0, y=12, z=50, v=60)


class TestLetters(PlacingTest):
    def test_least_and_most(self):
        ledger = two_rows(3, 5)
        for b in (3, 4, 5):
            self.takes(ledger, a=0, b=b)
        for b in (-3, 0, 2, 6):
            self.refuses(ledger, a=0, b=b)

    def test_least_and_most_alike(self):
        ledger = two_rows(1, 1)
        self.takes(ledger, a=9, b=10)
        self.refuses(ledger, a=9, b=9)
        self.refuses(ledger, a=9, b=11)

    def test_without_most(self):
        ledger = two_rows(3, None)
        self.takes(ledger, a=0, b=3)
        self.takes(ledger, a=0, b=FAR)
        self.refuses(ledger, a=0, b=2)

    def test_each_of_several(self):
        houses = two_rows(1, None)[0] + (("i", -FAR, FAR, 0, ((("c", 0),),)),)
        ledger = (houses, (("a", "b", 2, 4), ("b", "c", 3, None), ("c", "a", 1, None)))
        without_back = (houses, ledger[1][:2])
        self.takes(without_back, a=0, b=2, c=5)
        self.refuses(without_back, a=0, b=1, c=5)
        self.refuses(without_back, a=0, b=2, c=4)
        self.refuses(ledger, a=0, b=2, c=5)


class TestForm(unittest.TestCase):
    ledger = one_house(-9, 9, 9, (("y", 1), ("x", 2)), (("z", 3),))
    placing = (("x", 2), ("y", 1), ("z", 3))

    def refuses(self, thing):
        self.assertIs(same_behind(self, is_placing, self.ledger, thing), False, thing)

    def test_it_is_one(self):
        self.assertIs(is_placing(self.ledger, self.placing), True)

    def test_rows_left_out(self):
        for place in range(3):
            self.refuses(self.placing[:place] + self.placing[place + 1:])
        self.refuses(())

    def test_rows_twice_or_more(self):
        for place in range(3):
            self.refuses(self.placing[:place] + self.placing[place:place + 1] + self.placing[place:])
        self.refuses((("x", 2), ("x", 2), ("z", 3)))
        self.refuses(self.placing + (("zz", 9),))
        self.refuses((("a", 0),) + self.placing)

    def test_rows_of_another_name(self):
        for place, other in ((0, "w"), (1, "xx"), (2, "zz"), (2, "h"), (2, ""), (2, "Z"), (2, None), (2, 3)):
            self.refuses(put(self.placing, (place, 0), other))

    def test_not_rising(self):
        self.refuses(self.placing[::-1])
        self.refuses((("y", 1), ("x", 2), ("z", 3)))
        self.refuses((("x", 2), ("z", 3), ("y", 1)))

    def test_truths_for_moments(self):
        self.refuses(put(self.placing, (1, 1), True))
        ledger = one_house(0, 1, 0, (("x", 1),))
        for moment in (0, 1):
            self.assertIs(is_placing(ledger, (("x", moment),)), True)
            self.assertIs(is_placing(ledger, (("x", bool(moment)),)), False)

    def test_moments_of_other_kinds(self):
        for place in range(3):
            for thing in odd_things() + ["1", "a", (1,), [1]]:
                with self.subTest(place=place, kind=type(thing)):
                    self.assertIs(is_placing(self.ledger, put(self.placing, (place, 1), thing)), False)
                    self.assertIs(is_placing(self.ledger, put(self.placing, (place, 0), thing)), False)
                    self.assertIs(is_placing(self.ledger, put(self.placing, (place,), thing)), False)

    def test_a_list_or_a_dict_for_a_tuple(self):
        self.refuses(list(self.placing))
        self.refuses(dict(self.placing))
        for place in range(3):
            self.refuses(put(self.placing, (place,), list(self.placing[place])))

    def test_parts_more_or_fewer(self):
        for place in range(3):
            self.refuses(put(self.placing, (place,), self.placing[place] + (0,)))
            self.refuses(put(self.placing, (place,), self.placing[place][:1]))

    def test_things_of_any_kind(self):
        for thing in odd_things() + [0, 3, "x", self.ledger, ("x", "y", "z")]:
            with self.subTest(kind=type(thing)):
                self.assertIs(is_placing(self.ledger, thing), False)

    def test_a_ledger_without_rows(self):
        for ledger in (one_house(0, 1, 0), ((("a", 0, 0, 0, ()), ("b", 1, 2, 3, ())), ())):
            self.assertIs(is_placing(ledger, ()), True)
            for thing in ([], {}, None, "", 0, False, ((),), (("x", 1),), (None,), frozenset()):
                self.assertIs(is_placing(ledger, thing), False)

    def test_all_of_a_ledger_at_once(self):
        placing = (("p", 1), ("q", 8), ("v", 10), ("x", 4), ("y", 6), ("z", 11))
        self.assertIs(is_placing(big(), placing), True)
        for place, (row, moment) in enumerate(placing):
            for other in (moment - 9, moment + 9):
                self.assertIs(is_placing(big(), put(placing, (place, 1), other)), False, (row, other))


if __name__ == "__main__":
    unittest.main()
