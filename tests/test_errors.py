"""[6]: the errors."""

import unittest

from neverowing import errors
from neverowing.errors import OweError

NAMES = """BadShare BadWorld NoStanding NoAsk NoAnswer BadPrice BadOrder BadCount TooMany BadIncome
BadTable BadWhole BadLink BadIncomes BadPapers BadRule BadLot BadGap BadPlace BadExchange NoRoom
BadPair BadSeats BadWish BadRecipes BadValue BadDiary BadName BadRow NoTurn Owing NoSafe BadDeed
BadText""".split()


def classes():
    return [getattr(errors, name) for name in NAMES]


class ErrorsTest(unittest.TestCase):
    def test_base_stands_under_value_error(self):
        self.assertEqual(OweError.__bases__, (ValueError,))

    def test_each_error_stands_directly_under_the_base(self):
        self.assertEqual(len(NAMES), 34)
        for kind in classes():
            self.assertEqual(kind.__bases__, (OweError,), kind)

    def test_no_error_is_a_subclass_of_another_one(self):
        for kind in classes():
            for other in classes():
                self.assertEqual(issubclass(kind, other), kind is other)

    def test_there_are_no_other_errors(self):
        found = [name for name, value in vars(errors).items() if isinstance(value, type)]
        self.assertEqual(sorted(found), sorted(NAMES + ["OweError"]))

    def test_each_class_has_its_own_name_and_module(self):
        for name, kind in zip(NAMES, classes()):
            self.assertEqual((kind.__name__, kind.__module__), (name, "neverowing.errors"))

    def test_what_is_none_by_default(self):
        for kind in [OweError] + classes():
            self.assertIsNone(kind().what)

    def test_what_is_the_value_itself(self):
        for kind in [OweError] + classes():
            for value in (None, False, True, 0, 10 ** 5000, "word", (1, "a"), [1], {"a": 1}, OweError(3)):
                self.assertIs(kind(value).what, value)
                self.assertIs(kind(what=value).what, value)

    def test_what_is_the_one_attribute(self):
        for kind in [OweError] + classes():
            self.assertEqual(vars(kind(7)), {"what": 7})

    def test_errors_can_be_raised_and_caught(self):
        for kind in classes():
            with self.assertRaises(kind):
                raise kind("why")
            with self.assertRaises(OweError):
                raise kind(what="why")
            with self.assertRaises(ValueError):
                raise kind

    def test_at_most_one_argument(self):
        for kind in [OweError] + classes():
            with self.assertRaises(TypeError):
                kind(1, 2)


if __name__ == "__main__":
    unittest.main()
