import unittest

from barterheaps import bounds

NUMBERS = {
    "MAX_SINGLE": 4, "MAX_WEIGHT": 6, "MAX_ROWS": 6, "MAX_KINDS": 6, "MAX_FREE": 3, "MAX_COUNT": 40,
    "MAX_LOT": 3000, "MAX_BOOK": 30, "MAX_CAP": 3, "MAX_FAN": 2,
    "MAX_FAR": 1000000000000000000000000000000,
}


class BoundsTest(unittest.TestCase):
    """Point [12]."""

    def test_each_number(self):
        for name, number in NUMBERS.items():
            with self.subTest(name):
                self.assertEqual(getattr(bounds, name), number)
                self.assertIs(type(getattr(bounds, name)), int)

    def test_far_has_thirty_one_digits(self):
        self.assertEqual(str(bounds.MAX_FAR), "1" + "0" * 30)


if __name__ == "__main__":
    unittest.main()
