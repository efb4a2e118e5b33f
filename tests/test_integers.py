import unittest
from itertools import combinations, product
from math import comb, gcd

from barterheaps.integers import (
    dot, first_place, is_integer, plain_rows, rows_across, span, square_rows, value_of, without_last,
)
from values import slow_rank


class IntegersTest(unittest.TestCase):
    """The helpers that the other files share."""

    def test_is_integer(self):
        for value in (0, 1, -1, 10 ** 40):
            self.assertIs(is_integer(value), True)
        for value in (True, False, None, "1", (1,), [1], {1: 1}):
            self.assertIs(is_integer(value), False)

    def test_first_place(self):
        self.assertEqual([first_place(row) for row in ((3, 1), (0, -2), (0, 0), ())], [0, 1, 2, 0])

    def test_value_of(self):
        self.assertEqual(value_of((5, 2, -3), (4, 1)), 10)
        self.assertEqual(value_of((5, 2, -3), (4,)), 13)
        self.assertEqual(value_of((5,), ()), 5)

    def test_plain_rows_told(self):
        self.assertEqual(plain_rows(((2, 4, 6),)), ((1, 2, 3),))
        self.assertEqual(plain_rows(((0, -2, 4),)), ((0, 1, -2),))
        self.assertEqual(plain_rows(((0, 0), (0, 0))), ())
        self.assertEqual(plain_rows(((0, 1, 1), (1, 1, 0), (1, 0, 1))), ((1, 0, 0), (0, 1, 0), (0, 0, 1)))
        self.assertEqual(plain_rows(((1, 1, 1), (1, 1, 1), (2, 0, 1))), ((2, 0, 1), (0, 2, 1)))

    def test_plain_rows_of_small_rows(self):
        for pair in product(product((-2, 0, 3), repeat=3), repeat=2):
            rows = pair + ((1, 1, -1),)
            found = plain_rows(rows)
            places = [first_place(row) for row in found]
            self.assertEqual(len(found), slow_rank(rows))
            self.assertEqual(slow_rank(rows + found + ((0, 0, 0),)), len(found))
            self.assertEqual(places, sorted(set(places)))
            for row, place in zip(found, places):
                self.assertGreater(row[place], 0)
                self.assertEqual(gcd(*row), 1)
                self.assertEqual([other[place] for other in found if other != row], [0] * (len(found) - 1))

    def test_dot(self):
        self.assertEqual(dot((1, 2, -3), (4, 0, 5)), -11)
        self.assertEqual(dot((), ()), 0)

    def test_square_rows(self):
        for rows in product(product((-1, 0, 2), repeat=3), repeat=2):
            found = square_rows(rows + ((1, 1, 0),))
            self.assertEqual(plain_rows(found), plain_rows(rows + ((1, 1, 0),)))
            self.assertEqual(len(found), slow_rank(rows + ((1, 1, 0),)))
            self.assertEqual([dot(one, other) for one, other in combinations(found, 2)], [0] * comb(len(found), 2))

    def test_rows_across_told(self):
        self.assertEqual(rows_across((), 2), ((1, 0), (0, 1)))
        self.assertEqual(rows_across(((0, 0),), 2), ((1, 0), (0, 1)))
        self.assertEqual(rows_across(((2, 3),), 2), ((3, -2),))
        self.assertEqual(rows_across(((1, 1, 1),), 3), ((1, 0, -1), (0, 1, -1)))
        self.assertEqual(rows_across(((1, 0), (0, 1)), 2), ())

    def test_rows_across_small_rows(self):
        for rows in product(product((-2, 0, 1, 3), repeat=3), repeat=2):
            found = rows_across(rows, 3)
            self.assertEqual(found, plain_rows(found))
            self.assertEqual(len(found), 3 - slow_rank(rows))
            self.assertEqual({dot(one, other) for one in found for other in rows} | {0}, {0})

    def test_span(self):
        # From 5/3 to 9/2.
        self.assertEqual(span([(-5, 3), (9, -2)], ()), (2, 4))
        self.assertEqual(span([(-6, 3), (8, -2), (-1, 1)], ()), (2, 4))
        # From 1/3 to 2/3 there is no integer.
        low, high = span([(-1, 3), (2, -3)], ())
        self.assertGreater(low, high)
        # From the number ahead to 10.
        self.assertEqual(span([(0, -1, 1), (10, 0, -1)], (7,)), (7, 10))

    def test_without_last(self):
        # A number x with 2x at least a and 3x at most b is there just if 3a is at most 2b.
        limits = [(0, -1, 0, 2), (0, 0, 1, -3), (4, 1, 0, 0)]
        self.assertEqual(sorted(without_last(limits)), [(0, -3, 2), (4, 1, 0)])
        self.assertEqual(without_last([(1, 2)]), [])


if __name__ == "__main__":
    unittest.main()
