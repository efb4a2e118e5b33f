import inspect
import unittest
from fractions import Fraction
from functools import cmp_to_key
from itertools import product

from barterheaps import fans
from barterheaps.books import book_error
from barterheaps.costs import is_price_row, lowering_book, lowers
from barterheaps.errors import TooFree
from barterheaps.exchanges import least_exchanges
from barterheaps.fans import lowering_books
from barterheaps.scales import free
from barterheaps.tables import table_scale
from values import (
    KNOTTED, SCALES, SINGLE_SCALES, SLACK_TRIANGLE, TABLE, TRIANGLE, TWIN_TRIANGLE, WIDE_TABLE,
    bounded_lots, greatest_sum, is_plain, random_scales, slow_dot, slow_lowering_book, slow_rank, some_prices,
)

SCALE = ((2, 3, 4),)
THREE_FREE = (((1, 1, 1, 1),), ((6, 5, 4, 3),), ((1, 1, 1, 1), (1, 1, 1, 1)), SLACK_TRIANGLE, TWIN_TRIANGLE)
FREE = tuple(
    scale for scale in SINGLE_SCALES[:258] + SCALES + KNOTTED + tuple(random_scales(150, 31))
    if len(scale[0]) - slow_rank(scale) <= 2
)


def changes(scale):
    """What the least exchanges take less what they put."""
    return [tuple(less - more for less, more in zip(take, put)) for take, put in least_exchanges(scale)]


def sector_prices(scale):
    """With two free, a price row in each sector between lines on which an exchange costs nothing.

    The sectors are told by the angles of the lines, in the plane of the costs of two changes.
    """
    rows = changes(scale)
    one = rows[0]
    two = next(row for row in rows if slow_rank([one, row]) == 2)
    ends = []
    for row in rows:
        first, second = parts_of(row, one, two)
        ends += [(-second, first), (second, -first)]
    ends = sorted(ends, key=cmp_to_key(by_angle))
    found = []
    for this, after in zip(ends, ends[1:] + ends[:1]):
        middle = tuple(near + far for near, far in zip(this, after))
        found.append(prices_with(one, two, middle))
    return found


def parts_of(row, one, two):
    """The fractions by which the row is a sum of multiples of the two."""
    size, both, other = slow_dot(one, one), slow_dot(one, two), slow_dot(two, two)
    off = Fraction(size * other - both * both)
    first, second = slow_dot(row, one), slow_dot(row, two)
    return (first * other - second * both) / off, (size * second - both * first) / off


def by_angle(this, other):
    """Which of two points stands first on the way round."""
    halves = [point < (0, 0) for point in (this[::-1], other[::-1])]
    if halves[0] != halves[1]:
        return halves[0] - halves[1]
    turn = this[0] * other[1] - this[1] * other[0]
    return (turn < 0) - (turn > 0)


def prices_with(one, two, costs):
    """A price row by which the changes one and two cost a multiple, above 0, of these costs."""
    size, both, other = slow_dot(one, one), slow_dot(one, two), slow_dot(two, two)
    first = costs[0] * other - costs[1] * both
    second = costs[1] * size - costs[0] * both
    prices = [first * a + second * b for a, b in zip(one, two)]
    scaling = 1
    for price in prices:
        scaling *= price.denominator
    return tuple(int(price * scaling) for price in prices)


class LoweringBooksTest(unittest.TestCase):
    """Point [15]."""

    def books(self, scale):
        """The books, behind a check of what is returned."""
        found = lowering_books(scale)
        books = [book for book, _ in found]
        self.assertIs(type(found), tuple)
        self.assertTrue(is_plain(found))
        self.assertEqual(list(found), sorted(found))
        self.assertEqual(books, sorted(set(books)))
        for book, prices in found:
            self.assertIsNone(book_error(scale, book))
            self.assertIs(is_price_row(scale, prices), True)
            self.assertEqual(lowering_book(scale, prices), book)
            self.assertIs(lowers(scale, prices, book), True)
        return books

    def test_nothing_free(self):
        for scale in (((3,),), TRIANGLE, ((1, 0), (0, 1)), ((1,), (1,)), ((1,), (0,))):
            self.assertEqual(self.books(scale), [()])
            self.assertIs(type(lowering_books(scale)[0][1]), tuple)

    def test_one_kind_free(self):
        self.assertEqual(self.books(((6, 4),)), [(((0, 3), (2, 0)),), (((2, 0), (0, 3)),)])
        self.assertEqual(self.books(TABLE), [(((0, 1, 1, 0), (1, 0, 0, 1)),), (((1, 0, 0, 1), (0, 1, 1, 0)),)])
        self.assertEqual(self.books(((1, 1), (1, 1))), [(((0, 1), (1, 0)),), (((1, 0), (0, 1)),)])
        for scale in FREE:
            if len(scale[0]) - slow_rank(scale) == 1:
                (take, put), = least_exchanges(scale)
                self.assertEqual(self.books(scale), [((put, take),), ((take, put),)])

    def test_three_equal_weights(self):
        units = ((0, 0, 1), (0, 1, 0), (1, 0, 0))
        told = sorted(tuple((unit, cheap) for unit in units if unit != cheap) for cheap in units)
        for weight in range(1, 7):
            self.assertEqual(self.books(((weight,) * 3,)), told)
        self.assertEqual(self.books(((1, 1, 1), (1, 1, 1))), told)

    def test_tables(self):
        self.assertEqual(len(self.books(WIDE_TABLE)), 6)
        self.assertEqual(len(self.books(table_scale(3, 2, ()))), 6)
        self.assertEqual(len(self.books(table_scale(2, 2, ()))), 2)
        self.assertEqual(len(self.books(table_scale(1, 5, ()))), 1)
        self.assertEqual(len(self.books(table_scale(3, 3, ((0, 0), (1, 1), (2, 2))))), 2)

    def test_told(self):
        self.assertEqual(self.books(SCALE), [
            (((0, 0, 1), (2, 0, 0)), ((0, 2, 0), (3, 0, 0))),
            (((0, 0, 1), (2, 0, 0)), ((3, 0, 0), (0, 2, 0))),
            (((0, 0, 2), (1, 2, 0)), ((1, 0, 1), (0, 2, 0)), ((2, 0, 0), (0, 0, 1))),
            (((0, 0, 3), (0, 4, 0)), ((1, 0, 1), (0, 2, 0)), ((1, 2, 0), (0, 0, 2)), ((2, 0, 0), (0, 0, 1))),
            (((0, 2, 0), (1, 0, 1)), ((2, 0, 0), (0, 0, 1))),
            (((0, 4, 0), (0, 0, 3)), ((1, 0, 1), (0, 2, 0)), ((1, 2, 0), (0, 0, 2)), ((2, 0, 0), (0, 0, 1))),
        ])

    def test_all_sectors(self):
        """Just the books of the sectors, which are found by their angles."""
        many = 0
        for scale in FREE:
            if len(scale[0]) - slow_rank(scale) == 2:
                told = {lowering_book(scale, prices) for prices in sector_prices(scale)}
                self.assertEqual(self.books(scale), sorted(told), scale)
                many += 1
        self.assertGreater(many, 200)

    def test_no_book_is_missing(self):
        for scale in FREE[::5] + (SCALE, ((6, 5, 5),), ((3, 5, 6),), WIDE_TABLE):
            books = self.books(scale)
            for prices in some_prices(scale, 6, 32):
                self.assertIn(lowering_book(scale, prices), books)
                self.assertIn(lowering_book(scale, tuple(price * 10 ** 12 for price in prices)), books)

    def test_no_book_of_small_prices_is_missing(self):
        for scale in (SCALE, ((1, 1, 1),), ((3, 4, 5),), ((1, 2, 3),), ((2, 2, 3),), ((6, 5, 6),)):
            books = self.books(scale)
            found = {lowering_book(scale, prices) for prices in product(range(-4, 5), repeat=3)}
            self.assertLessEqual(found, set(books))
        # Here small prices have all books.
        for scale in (SCALE, ((1, 1, 1),), ((1, 2, 3),)):
            found = {lowering_book(scale, prices) for prices in product(range(-4, 5), repeat=3)}
            self.assertEqual(sorted(found), self.books(scale))

    def test_books_are_as_the_lots_tell(self):
        for scale in (SCALE, ((3, 4, 5),), ((6, 5, 5),), TABLE, WIDE_TABLE):
            lots = bounded_lots(scale, greatest_sum(scale))
            for book, prices in lowering_books(scale):
                self.assertEqual(slow_lowering_book(lots, prices), book)

    def test_books_of_great_prices(self):
        great = 10 ** 30 - 1
        for scale in (SCALE, ((6, 5, 5),), ((5, 6, 4),), WIDE_TABLE):
            books = self.books(scale)
            for book, prices in lowering_books(scale):
                times = great // (20 * max(abs(price) for price in prices + (1,)))
                shift = great // 20
                more = tuple(times * price + shift * weight for price, weight in zip(prices, scale[0]))
                self.assertEqual(lowering_book(scale, more), book)
            for prices in product((great, great - 1, -great), repeat=len(scale[0]) % 6 or 2):
                prices = prices + (0,) * (len(scale[0]) - len(prices))
                self.assertIn(lowering_book(scale, prices), books)

    def test_too_free(self):
        chosen = THREE_FREE + tuple(scale for scale in random_scales(60, 33) if slow_rank(scale) == len(scale[0]) - 3)
        self.assertGreater(len(chosen), 8)
        for scale in chosen + SINGLE_SCALES[258::40]:
            self.assertEqual(free(scale), 3)
            with self.assertRaises(TooFree):
                lowering_books(scale)

    def test_most_free_that_is_told(self):
        scale = ((1, 1, 1, 1), (0, 0, 1, 1))
        self.assertEqual(free(scale), 2)
        self.assertEqual(len(self.books(scale)), 4)


class ConventionsTest(unittest.TestCase):
    """Point [2], and the interface, for fans.py."""

    def test_names_and_arguments(self):
        self.assertEqual(fans.lowering_books.__module__, "barterheaps.fans")
        self.assertEqual(list(inspect.signature(lowering_books).parameters), ["scale"])
        self.assertEqual(lowering_books(scale=SCALE), lowering_books(SCALE))

    def test_numbers_are_integers(self):
        for scale in FREE[::20]:
            for book, prices in lowering_books(scale):
                self.assertEqual({type(price) for price in prices}, {int})
                self.assertEqual({type(count) for pair in book for heap in pair for count in heap} | {int}, {int})


if __name__ == "__main__":
    unittest.main()
