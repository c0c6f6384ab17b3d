import unittest

from skewbooks import errors

PLAIN = ["NoBound", "NoWord", "TooMany", "NoNumber", "NoOrder", "NoHouse", "NoRun", "NoReading", "NoLetter", "NoMerge"]
FIELDS = {"NoPlacing": "ring", "NoRow": "name", "NoText": "part", "NoCall": "row", "NoKept": "name"}


class TestErrors(unittest.TestCase):
    def test_there_are_fifteen_refusals(self):
        told = {name for name, thing in vars(errors).items() if isinstance(thing, type)}
        self.assertEqual(told, set(PLAIN) | set(FIELDS) | {"SkewError"})
        self.assertEqual(len(told), 16)

    def test_each_stands_straight_under_skewerror(self):
        self.assertEqual(errors.SkewError.__bases__, (ValueError,))
        for name in PLAIN + list(FIELDS):
            with self.subTest(name):
                self.assertEqual(getattr(errors, name).__bases__, (errors.SkewError,))

    def test_none_is_one_of_the_others(self):
        made = {name: getattr(errors, name)("why") for name in PLAIN + list(FIELDS)}
        for name, error in made.items():
            self.assertIsInstance(error, errors.SkewError)
            self.assertIsInstance(error, ValueError)
            for other in made:
                with self.subTest(name=name, other=other):
                    self.assertEqual(isinstance(error, getattr(errors, other)), name == other)

    def test_fields_are_set_when_made(self):
        for name, field in FIELDS.items():
            for value in ("x", None, 0, True, (("early", "a"),), [], {}):
                with self.subTest(name=name, value=value):
                    self.assertEqual(vars(getattr(errors, name)(value)), {field: value})

    def test_two_errors_keep_fields_of_their_own(self):
        one, other = errors.NoRow("a"), errors.NoRow("b")
        self.assertEqual((one.name, other.name), ("a", "b"))

    def test_raised_and_taken_as_any_refusal(self):
        for name in PLAIN + list(FIELDS):
            with self.subTest(name), self.assertRaises(errors.SkewError):
                raise getattr(errors, name)("why")


if __name__ == "__main__":
    unittest.main()
