import string
import unittest

from skewbooks.words import is_name, is_whole
from tests.helper import odd_things, same_behind


class TestWhole(unittest.TestCase):
    def test_numbers(self):
        for number in (0, 1, -1, 7, 10 ** 9, -10 ** 9, 10 ** 30):
            with self.subTest(number):
                self.assertIs(same_behind(self, is_whole, number), True)

    def test_truths_are_none(self):
        self.assertIs(is_whole(True), False)
        self.assertIs(is_whole(False), False)

    def test_things_of_other_kinds(self):
        for thing in odd_things() + ["a", "1", (1,), [1], {1: 1}]:
            with self.subTest(kind=type(thing)):
                self.assertIs(is_whole(thing), False)


class TestName(unittest.TestCase):
    def test_one_to_eight_small_letters(self):
        for name in list(string.ascii_lowercase) + ["ab", "zyxwvuts", "abcdefgh", "aaaaaaaa"]:
            with self.subTest(name):
                self.assertIs(same_behind(self, is_name, name), True)

    def test_too_short_or_too_long(self):
        for text in ("", "a" * 9, "abcdefghi", "a" * 1200):
            with self.subTest(text):
                self.assertIs(is_name(text), False)

    def test_each_other_sign_alone_and_among_letters(self):
        signs = [chr(code) for code in range(256) if chr(code) not in string.ascii_lowercase]
        for sign in signs + ["\u0131", "\u03b1", "\uff41", "\u00aa"]:
            for text in (sign, sign + "ab", "a" + sign + "b", "ab" + sign):
                with self.subTest(text):
                    self.assertIs(is_name(text), False)

    def test_things_of_other_kinds(self):
        for thing in odd_things() + [0, 1, 5, ("a",), ["a"], {"a": "a"}, ("a", "b")]:
            with self.subTest(kind=type(thing)):
                self.assertIs(is_name(thing), False)


if __name__ == "__main__":
    unittest.main()
