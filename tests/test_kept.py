import inspect
import unittest
from fractions import Fraction
from itertools import combinations, product
from math import gcd
from random import Random

from barterheaps import kept as module
from barterheaps.books import book_error, joins, least_book
from barterheaps.exchanges import least_exchanges
from barterheaps.kept import is_kept, is_tight, kept, plain
from values import (
    KNOTTED, SCALES, SINGLE_SCALES, SLACK_TRIANGLE, TABLE, TRIANGLE, WIDE_TABLE,
    is_plain, random_scales, slow_lots, slow_rank, slow_sums,
)

SCALE = ((2, 3, 4),)
FIRST = ((2, 0, 0), (0, 0, 1))
SECOND = ((1, 0, 1), (0, 2, 0))
BOOK = (FIRST, SECOND)
FULL = tuple((take, (take[0] - 2, take[1], take[2] + 1)) for take in product(range(2, 5), range(5), range(2)))


def slow_plain(rows):
    """The plain rows of all sums of rational multiples of the rows, by fractions."""
    rest = [[Fraction(number) for number in row] for row in rows]
    done = []
    for place in range(len(rows[0])):
        heads = [row for row in rest if row[place] != 0]
        if heads:
            head = [number / heads[0][place] for number in heads[0]]
            rest.remove(heads[0])
            rest = [[a - row[place] * b for a, b in zip(row, head)] for row in rest]
            done = [[a - row[place] * b for a, b in zip(row, head)] for row in done] + [head]
    found = []
    for row in done:
        scaling = 1
        for number in row:
            scaling *= number.denominator // gcd(scaling, number.denominator)
        found.append(tuple(int(number * scaling) for number in row))
    return tuple(found)


def gains(book):
    """What the exchanges put less what they take."""
    return [tuple(more - less for less, more in zip(take, put)) for take, put in book]


def random_books(scale, many, seed):
    """So many books of exchanges of small heaps, also such as are not bare."""
    chance = Random(seed)
    heaps = slow_lots(scale, 2 if len(scale) > 1 else 12).values()
    pairs = [pair[::chance.choice((-1, 1))] for lot in heaps for pair in combinations(lot, 2)]
    return [tuple(chance.sample(pairs, min(len(pairs), chance.randint(0, 4)))) for _ in range(many)]


class IsKeptTest(unittest.TestCase):
    """Point [7]: is_kept."""

    def check(self, told, book, *rows):
        for row in rows:
            with self.subTest(book=book, row=row):
                self.assertIs(is_kept(book, row), told)

    def test_rows(self):
        self.check(True, BOOK, (2, 3, 4), (0, 0, 0), (-2, -3, -4), (4, 6, 8), (200, 300, 400))
        self.check(False, BOOK, (1, 0, 0), (2, 3, 5), (2, 4, 4), (3, 3, 4), (0, 0, 1), (-2, 3, 4))
        self.check(True, (FIRST,), (1, 0, 2), (0, 1, 0), (1, 7, 2), (-3, 5, -6))
        self.check(False, (FIRST,), (1, 0, 1), (0, 1, 1), (2, 3, 3))

    def test_each_exchange_counts(self):
        row = (1, 9, 2)
        self.check(True, (FIRST, ((4, 0, 0), (0, 0, 2))), row)
        self.check(False, BOOK, row)
        self.check(False, BOOK[::-1], row)
        self.check(False, FULL[:29] + (SECOND,), row)
        self.check(True, FULL, row, (-1, 0, -2))
        self.check(False, FULL, (1, 9, 1))

    def test_empty_book_keeps_all_rows(self):
        for kinds in range(1, 7):
            self.check(True, (), (0,) * kinds, tuple(range(-2, kinds - 2)), (10 ** 39,) * kinds)

    def test_great_numbers(self):
        far = 10 ** 40 - 1
        self.check(True, (FIRST,), (far // 2, far, far // 2 * 2), (-(far // 2), -far, -(far // 2) * 2))
        self.check(False, (FIRST,), (far // 2, far, far // 2 * 2 + 1), (far, far, far), (-far, 0, far), (far, 0, -far))
        self.check(True, (((1, 0), (0, 1)),), (far, far), (-far, -far))
        self.check(False, (((1, 0), (0, 1)),), (far, far - 1), (-far, 1 - far), (far, -far))
        self.check(True, (((40, 0), (0, 40)),), (far, far))

    def test_what_is_in_both_does_not_count(self):
        self.check(True, (((3, 5, 0), (1, 5, 1)),), (1, 0, 2), (1, 100, 2))
        self.check(False, (((3, 5, 0), (1, 5, 1)),), (1, 0, 1))

    def test_small_rows(self):
        for row in product(range(-3, 4), repeat=3):
            self.check(row[0] * 2 == row[2], (FIRST,), row)
            self.check(row[0] * 2 == row[2], (FIRST[::-1],), row)
            self.check(row[0] * 2 == row[2] and row[0] + row[2] == 2 * row[1], BOOK, row)

    def test_rows_of_the_scale_are_kept(self):
        for scale in SCALES + KNOTTED:
            self.check(True, least_exchanges(scale), *scale)


class PlainTest(unittest.TestCase):
    """Point [7]: plain, and the form of plain rows."""

    def test_told(self):
        self.assertEqual(plain(SCALE), ((2, 3, 4),))
        self.assertEqual(plain(((6, 4, 2),)), ((3, 2, 1),))
        self.assertEqual(plain(((5,),)), ((1,),))
        self.assertEqual(plain(TABLE), ((1, 0, 0, -1), (0, 1, 0, 1), (0, 0, 1, 1)))
        self.assertEqual(plain(TRIANGLE), ((1, 0, 0), (0, 1, 0), (0, 0, 1)))
        self.assertEqual(plain(((1, 1), (1, 1))), ((1, 1),))
        self.assertEqual(plain(((0, 0), (1, 1))), ((1, 1),))
        self.assertEqual(plain(((0, 1, 1), (1, 0, 1))), ((1, 0, 1), (0, 1, 1)))
        # The rows come out with 2 at their heads.
        self.assertEqual(plain(((1, 1, 0, 1), (0, 1, 1, 1), (1, 0, 1, 1))), ((2, 0, 0, 1), (0, 2, 0, 1), (0, 0, 2, 1)))

    def check_form(self, rows):
        places = [[number != 0 for number in row].index(True) for row in rows]
        self.assertEqual(places, sorted(set(places)))
        for row, place in zip(rows, places):
            self.assertGreater(row[place], 0)
            self.assertEqual(gcd(*row), 1)
            self.assertEqual([other[place] for other in rows if other != row], [0] * (len(rows) - 1))

    def test_all_scales(self):
        for scale in SINGLE_SCALES + SCALES + KNOTTED + tuple(random_scales(300, 21)):
            found = plain(scale)
            self.assertEqual(found, slow_plain(scale), scale)
            self.check_form(found)
            self.assertEqual(slow_rank(scale + found), len(found))

    def test_kept_rows_are_plain(self):
        for scale in SCALES + KNOTTED:
            for book in random_books(scale, 8, 22):
                self.check_form(kept(book, len(scale[0])))


class KeptTest(unittest.TestCase):
    """Point [7]: kept."""

    def test_told(self):
        self.assertEqual(kept(BOOK, 3), ((2, 3, 4),))
        self.assertEqual(kept(BOOK[::-1], 3), ((2, 3, 4),))
        self.assertEqual(kept((FIRST,), 3), ((1, 0, 2), (0, 1, 0)))
        self.assertEqual(kept((SECOND,), 3), ((1, 0, -1), (0, 1, 2)))
        self.assertEqual(kept((((3, 0), (0, 2)),), 2), ((2, 3),))
        self.assertEqual(kept((((1, 0, 0, 1), (0, 1, 1, 0)),), 4), plain(TABLE))

    def test_numbers_below_zero(self):
        self.assertEqual(kept((((1, 0, 1), (0, 1, 0)),), 3), ((1, 0, -1), (0, 1, 1)))

    def test_empty_book(self):
        for kinds in range(1, 7):
            rows = tuple(tuple(int(at == kind) for at in range(kinds)) for kind in range(kinds))
            self.assertEqual(kept((), kinds), rows)

    def test_full_book(self):
        self.assertEqual(len(FULL), 30)
        self.assertEqual(kept(FULL, 3), ((1, 0, 2), (0, 1, 0)))
        self.assertEqual(kept(FULL[:29] + (SECOND,), 3), ((2, 3, 4),))

    def test_opposite_and_bare_ones_keep_the_same(self):
        self.assertEqual(kept((FIRST[::-1], SECOND), 3), ((2, 3, 4),))
        self.assertEqual(kept((((3, 5, 0), (1, 5, 1)),), 3), kept((FIRST,), 3))
        self.assertEqual(kept((((40, 0, 0), (0, 0, 20)),), 3), kept((FIRST,), 3))

    def test_kept_rows_are_just_these(self):
        for scale in SCALES + KNOTTED + tuple(random_scales(60, 24)):
            kinds = len(scale[0])
            for book in random_books(scale, 8, 23):
                self.assertIsNone(book_error(scale, book))
                found = kept(book, kinds)
                rank = slow_rank(gains(book)) if book else 0
                self.assertEqual(len(found), kinds - rank)
                self.assertEqual(found, slow_plain(found))
                for row in found + scale:
                    self.assertIs(is_kept(book, row), True)

    def test_is_kept_tells_the_same(self):
        for book in ((), (FIRST,), (SECOND,), BOOK, FULL):
            found = kept(book, 3)
            for row in product(range(-2, 5), repeat=3):
                self.assertIs(is_kept(book, row), slow_rank(found + (row,)) == len(found))


class IsTightTest(unittest.TestCase):
    """Point [7]: is_tight."""

    def check(self, told, scale, book):
        with self.subTest(scale=scale, book=book):
            self.assertIsNone(book_error(scale, book))
            self.assertIs(is_tight(scale, book), told)

    def test_told(self):
        self.check(True, SCALE, BOOK)
        self.check(True, SCALE, BOOK[::-1])
        self.check(False, SCALE, (FIRST,))
        self.check(False, SCALE, FULL)
        self.check(False, SCALE, (FIRST, ((4, 0, 0), (0, 0, 2))))
        self.check(True, SCALE, FULL[:29] + (SECOND,))
        self.check(True, TABLE, least_book(TABLE))
        self.check(True, ((6, 4),), (((2, 0), (0, 3)),))

    def test_empty_book(self):
        for scale in SCALES + KNOTTED:
            self.check(slow_rank(scale) == len(scale[0]), scale, ())

    def test_tight_books_that_do_not_join(self):
        for scale, book in (
            (SCALE, (SECOND, ((3, 0, 0), (0, 2, 0)))),
            (SCALE, (((4, 0, 0), (0, 0, 2)), SECOND)),
            (SCALE, (((3, 0, 0), (1, 0, 1)), ((1, 0, 2), (0, 2, 1)))),
            (TABLE, (((2, 0, 0, 2), (0, 2, 2, 0)),)),
            (((1, 1),), (((2, 0), (0, 2)),)),
        ):
            self.check(True, scale, book)
            self.assertIs(joins(scale, book), False)

    def test_books_that_join_are_tight(self):
        for scale in SINGLE_SCALES[:300] + SCALES + KNOTTED + tuple(random_scales(100, 25)):
            self.check(True, scale, least_book(scale))
            if len(least_exchanges(scale)) <= 30:
                self.check(True, scale, least_exchanges(scale))

    def test_tight_just_if_there_are_enough(self):
        for scale in SCALES + KNOTTED:
            for book in random_books(scale, 8, 26):
                rank = slow_rank(gains(book)) if book else 0
                self.check(rank == len(scale[0]) - slow_rank(scale), scale, book)


class ConventionsTest(unittest.TestCase):
    """Point [2], and the interface, for kept.py."""

    def test_names_and_arguments(self):
        told = {
            "is_kept": ["book", "row"], "kept": ["book", "kinds"], "plain": ["scale"], "is_tight": ["scale", "book"],
        }
        for name, words in told.items():
            function = getattr(module, name)
            self.assertEqual(function.__module__, "barterheaps.kept")
            self.assertEqual(list(inspect.signature(function).parameters), words)

    def test_arguments_by_name(self):
        self.assertIs(is_kept(row=(2, 3, 4), book=BOOK), True)
        self.assertEqual(kept(kinds=3, book=BOOK), ((2, 3, 4),))
        self.assertEqual(plain(scale=SCALE), ((2, 3, 4),))
        self.assertIs(is_tight(book=BOOK, scale=SCALE), True)

    def test_kinds_of_what_is_returned(self):
        for scale in SCALES + KNOTTED:
            book = least_book(scale)
            for value in (plain(scale), kept(book, len(scale[0])), kept((), len(scale[0]))):
                self.assertIs(type(value), tuple)
                self.assertTrue(is_plain(value))
                for row in value:
                    self.assertEqual({type(number) for number in row}, {int})
            self.assertIs(type(is_kept(book, scale[0])), bool)
            self.assertIs(type(is_tight(scale, book)), bool)

    def test_sums_are_kept_by_their_rows(self):
        for scale in (SCALE, TABLE, WIDE_TABLE, SLACK_TRIANGLE):
            for row in scale:
                for take, put in least_exchanges(scale):
                    self.assertEqual(slow_sums((row,), take), slow_sums((row,), put))
                self.assertIs(is_kept(least_exchanges(scale), row), True)


if __name__ == "__main__":
    unittest.main()
