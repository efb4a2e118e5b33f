import unittest

from barterheaps import errors
from values import OTHERS

ARGUMENTS = {
    "BadScale": ("word",), "BadBook": ("index", "word"), "BadExchange": ("word",), "BadBars": (),
    "BadText": ("place",), "BadPrices": (), "Short": ("kind",), "Unlike": (), "TooMany": (), "TooFree": (),
    "NoHeap": (), "NotJoining": (), "NoExchange": (), "Twice": ("index",), "Full": (), "NothingToUndo": (),
}

VALUES = OTHERS + ((), ((1, 2), (2, 1)), 10 ** 5000, -(10 ** 40), b"x", 1.5, object())


class ErrorsTest(unittest.TestCase):
    """Point [11]."""

    def test_barter_error_stands_under_value_error(self):
        self.assertEqual(errors.BarterError.__bases__, (ValueError,))
        self.assertIsInstance(errors.BarterError(), ValueError)

    def test_sixteen_errors_stand_directly_under_it(self):
        self.assertEqual(len(ARGUMENTS), 16)
        for name in ARGUMENTS:
            with self.subTest(name):
                self.assertEqual(getattr(errors, name).__bases__, (errors.BarterError,))

    def test_each_is_defined_in_this_file(self):
        for name in ("BarterError",) + tuple(ARGUMENTS):
            with self.subTest(name):
                self.assertEqual(getattr(errors, name).__module__, "barterheaps.errors")
                self.assertEqual(getattr(errors, name).__name__, name)

    def test_any_values_by_position(self):
        for name, words in ARGUMENTS.items():
            for value in VALUES:
                given = [[value, at] for at, _ in enumerate(words)]
                self.check_attributes(getattr(errors, name)(*given), dict(zip(words, given)))

    def test_any_values_by_name(self):
        for name, words in ARGUMENTS.items():
            for value in VALUES:
                given = {word: [value, word] for word in words}
                self.check_attributes(getattr(errors, name)(**given), given)

    def check_attributes(self, error, given):
        for word, value in given.items():
            self.assertIs(getattr(error, word), value)

    def test_attributes_are_the_very_values(self):
        for value in VALUES:
            self.assertIs(errors.BadScale(value).word, value)
            self.assertIs(errors.Short(kind=value).kind, value)

    def test_order_of_two_arguments(self):
        error = errors.BadBook(3, "heap")
        self.assertEqual((error.index, error.word), (3, "heap"))
        error = errors.BadBook(word="twice", index=-1)
        self.assertEqual((error.index, error.word), (-1, "twice"))

    def test_missing_arguments_are_not_made_up(self):
        for name, words in ARGUMENTS.items():
            if words:
                with self.subTest(name), self.assertRaises(TypeError):
                    getattr(errors, name)()

    def test_raised_and_caught(self):
        for name, words in ARGUMENTS.items():
            for above in (getattr(errors, name), errors.BarterError, ValueError):
                with self.subTest(name), self.assertRaises(above):
                    raise getattr(errors, name)(*words)


if __name__ == "__main__":
    unittest.main()
