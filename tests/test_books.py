import copy
import inspect
import unittest
from itertools import combinations, product
from random import Random

from barterheaps import books
from barterheaps.books import (
    apart, book_error, is_least, joins, least_book, least_size, needed, needless, piece, walk,
)
from barterheaps.errors import BarterError, NotJoining, TooMany, Unlike
from barterheaps.exchanges import back, exchange_error, forth, least_exchanges
from barterheaps.groups import critical
from values import (
    KNOTTED, OTHERS, SCALES, SINGLE_SCALES, SLACK_TRIANGLE, TABLE, TRIANGLE, TWIN_TRIANGLE, WIDE_TABLE,
    is_plain, random_scales, slow_apart, slow_groups, slow_lot, slow_lots, slow_pieces, slow_walk,
)

SCALE = ((2, 3, 4),)
FIRST = ((2, 0, 0), (0, 0, 1))
SECOND = ((1, 0, 1), (0, 2, 0))
BOOK = (FIRST, SECOND)
FULL = tuple((take, (take[0] - 2, take[1], take[2] + 1)) for take in product(range(2, 5), range(5), range(2)))

SOME_SCALES = SINGLE_SCALES[:258] + SINGLE_SCALES[258::11] + SCALES + KNOTTED

# A bound for each scale that no critical sum is above.
BOUNDED = (
    (SCALE, 8), (((1, 2, 3),), 6), (((3, 4, 5),), 11), (((1, 1, 1, 1),), 2), (((6, 4),), 13), (((2, 2, 3),), 7),
    (((1, 2, 2, 3),), 4), (TABLE, 1), (((1, 1, 1, 0), (0, 0, 0, 1)), 1), (((0, 1, 1), (1, 1, 1)), 1),
    (((0, 0, 1, 1, 1), (1, 1, 1, 0, 1), (0, 1, 1, 1, 0)), 2), (SLACK_TRIANGLE, 1), (TWIN_TRIANGLE, 1), (WIDE_TABLE, 1),
)


def some_books(scale, most, many, seed):
    """Books that fit the scale, of least exchanges and of other ones, bare and not."""
    chance = Random(seed)
    least = list(least_exchanges(scale))
    lots = slow_lots(scale, most).values()
    pairs = [pair[::chance.choice((-1, 1))] for heaps in lots for pair in combinations(heaps, 2)]
    found = [(), tuple(least), tuple(pair[::-1] for pair in least[::-1])]
    for _ in range(many):
        book = chance.sample(least, chance.randint(0, len(least)))
        book += chance.sample(pairs, min(len(pairs), chance.randint(0, 4)))
        kept = []
        for pair in chance.sample(book, len(book)):
            if pair not in kept and pair[::-1] not in kept:
                kept.append(pair)
        found.append(tuple(kept))
    return found


class BoundedTest(unittest.TestCase):
    """The bounds with which the slow answers go through enough lots."""

    def test_no_critical_sum_is_above_the_bound(self):
        for scale, most in BOUNDED:
            self.assertLessEqual(max(max(sums) for sums, _ in critical(scale)), most)


class BookErrorTest(unittest.TestCase):
    """Point [6]: book_error."""

    def check(self, told, *values, scale=SCALE):
        for value in values:
            with self.subTest(value=value):
                self.assertEqual(book_error(scale, value), told)

    def test_books(self):
        self.check(None, (), (FIRST,), BOOK, BOOK[::-1], (FIRST[::-1], SECOND))
        self.check(None, (FIRST, ((3, 0, 0), (1, 0, 1)), ((2, 1, 0), (0, 1, 1))))
        for scale in SCALES + KNOTTED:
            self.check(None, (), least_exchanges(scale), scale=scale)

    def test_no_book(self):
        self.check((-1, "book"), *OTHERS)
        self.check((-1, "book"), [], [FIRST], [FIRST, SECOND], {}, {FIRST: 1}, "", {0: FIRST})

    def test_most_exchanges(self):
        self.assertEqual(len(FULL), 30)
        self.check(None, FULL, FULL[::-1], FULL[:29])
        more = ((5, 0, 0), (3, 0, 1))
        self.assertIsNone(exchange_error(SCALE, more))
        self.check((-1, "book"), FULL + (more,), FULL + FULL, (FIRST,) * 31, (None,) * 31, ((),) * 400)
        self.check((1, "twice"), (FIRST,) * 30)
        self.check((0, "exchange"), (None,) * 30)

    def test_words_of_exchange_error(self):
        wrong = (
            ("exchange", OTHERS + ((), FIRST + ((0, 0, 1),), (FIRST,), list(FIRST))),
            ("heap", (((2, 0, 0), [0, 0, 1]), ((True, 0, 0), (1, 0, 0)))),
            ("heap", (((41, 0, 0), (39, 0, 1)), ((2, 0), (0, 0, 1)), ((-2, 0, 2), (0, 0, 1)))),
            ("same", (((1, 2, 3), (1, 2, 3)), ((0, 0, 0), (0, 0, 0)))),
            ("sums", (((1, 0, 0), (0, 0, 1)), ((0, 0, 0), (0, 1, 0)))),
        )
        for word, items in wrong:
            for item in items:
                self.assertEqual(exchange_error(SCALE, item), word)
                self.check((0, word), (item,), (item, FIRST), (item, item))
                self.check((1, word), (FIRST, item), (FIRST, item, FIRST))
                self.check((2, word), BOOK + (item,), BOOK + (item, None))
                self.check((29, word), FULL[:29] + (item,))

    def test_twice(self):
        self.check((1, "twice"), (FIRST, FIRST), (FIRST, FIRST[::-1]), (FIRST[::-1], FIRST))
        self.check((2, "twice"), BOOK + (FIRST,), BOOK + (SECOND,), BOOK + (FIRST[::-1],), BOOK + (SECOND[::-1],))
        self.check((29, "twice"), FULL[:29] + (FULL[0],), FULL[:29] + (FULL[28][::-1],))
        # What differs only by what is in both sides is another exchange.
        self.check(None, (FIRST, ((2, 1, 0), (0, 1, 1))))

    def test_first_item_that_is_wrong(self):
        self.check((1, "twice"), (FIRST, FIRST, None), (FIRST, FIRST[::-1], ((0, 0, 0), (0, 0, 1))))
        self.check((1, "exchange"), (FIRST, None, FIRST), (FIRST, [], ((41, 0, 0), (41, 0, 0))))
        self.check((0, "sums"), (((1, 0, 0), (0, 0, 1)), ((1, 0, 0), (0, 0, 1))))
        self.check((0, "heap"), (((True, 0, 1), (0, 2, 0)), SECOND))
        self.check((1, "heap"), (SECOND, ((True, 0, 1), (0, 2, 0))), (SECOND, ((0, 2, 0), (1, False, 1))))

    def test_values_are_not_changed(self):
        for value in ([FIRST, [1]], (FIRST, [SECOND]), {FIRST: [1]}, ((FIRST, [1, 2]), FIRST)):
            before = copy.deepcopy(value)
            book_error(SCALE, value)
            self.assertEqual(value, before)


class PieceTest(unittest.TestCase):
    """Point [6]: piece."""

    def test_told(self):
        self.assertEqual(piece(SCALE, BOOK, (3, 0, 0)), ((0, 2, 0), (1, 0, 1), (3, 0, 0)))
        self.assertEqual(piece(SCALE, (FIRST,), (3, 0, 0)), ((1, 0, 1), (3, 0, 0)))
        self.assertEqual(piece(SCALE, (FIRST,), (0, 2, 0)), ((0, 2, 0),))
        self.assertEqual(piece(SCALE, (FIRST,), (0, 0, 1)), ((0, 0, 1), (2, 0, 0)))

    def test_empty_book_and_heap_of_nothing(self):
        for scale in SCALES:
            for heap in ((0,) * len(scale[0]), (2,) * len(scale[0])):
                self.assertEqual(piece(scale, (), heap), (heap,))
            nothing = (0,) * len(scale[0])
            self.assertEqual(piece(scale, least_exchanges(scale), nothing), (nothing,))

    def test_what_is_in_both_must_be_there(self):
        book = (((2, 1, 0), (0, 1, 1)),)
        self.assertEqual(piece(SCALE, book, (4, 0, 0)), ((4, 0, 0),))
        self.assertEqual(piece(SCALE, book, (4, 1, 0)), ((0, 1, 2), (2, 1, 1), (4, 1, 0)))

    def test_all_pieces(self):
        for scale, most in BOUNDED:
            lots = slow_lots(scale, min(most + 2, 8))
            for book in some_books(scale, min(most, 6), 6, 11):
                for heaps in lots.values():
                    pieces = slow_pieces(heaps, book)
                    for heap in heaps:
                        self.assertEqual(piece(scale, book, heap), pieces[heap], (scale, book, heap))

    def test_greatest_lots(self):
        scale = ((1, 1, 1),)
        book = least_exchanges(scale)
        # 2926 and 3003 heaps.
        self.assertEqual(len(piece(scale, book, (25, 25, 25))), 2926)
        self.assertEqual(piece(scale, (), (40, 35, 0)), ((40, 35, 0),))
        for heap in ((26, 25, 25), (40, 36, 0), (40, 40, 40)):
            for told in (book, ()):
                with self.assertRaises(TooMany):
                    piece(scale, told, heap)


class WalkTest(unittest.TestCase):
    """Point [6]: walk."""

    def check_trail(self, scale, book, one, other):
        """Checks that the walk leads from one to the other, and gives it with the heaps on the way."""
        steps = walk(scale, book, one, other)
        trail = [one]
        for index, way in steps:
            trail.append((forth if way == 1 else back)(book[index], trail[-1]))
        self.assertEqual(trail[-1], other)
        return steps, trail

    def test_example(self):
        self.assertEqual(walk(SCALE, least_book(SCALE), (3, 0, 0), (0, 2, 0)), ((0, 1), (1, 1)))

    def test_told(self):
        self.assertEqual(walk(SCALE, BOOK, (0, 2, 0), (3, 0, 0)), ((1, -1), (0, -1)))
        self.assertEqual(walk(SCALE, (FIRST[::-1], SECOND), (0, 2, 0), (3, 0, 0)), ((1, -1), (0, 1)))
        self.assertEqual(walk(TABLE, least_book(TABLE), (2, 0, 0, 2), (0, 2, 2, 0)), ((0, 1), (0, 1)))

    def test_no_step(self):
        for scale in SCALES:
            for heap in ((0,) * len(scale[0]), (2,) * len(scale[0])):
                self.assertEqual(walk(scale, (), heap, heap), ())
                self.assertEqual(walk(scale, least_exchanges(scale), heap, heap), ())

    def test_none(self):
        self.assertIsNone(walk(SCALE, (), (2, 0, 0), (0, 0, 1)))
        self.assertIsNone(walk(SCALE, (FIRST,), (3, 0, 0), (0, 2, 0)))
        self.assertIsNone(walk(SCALE, (((2, 1, 0), (0, 1, 1)),), (2, 0, 0), (0, 0, 1)))

    def test_first_of_several(self):
        book = (((1, 0, 0), (0, 1, 0)), ((0, 1, 0), (0, 0, 1)))
        scale = ((1, 1, 1),)
        self.assertEqual(walk(scale, book, (1, 1, 0), (0, 1, 1)), ((0, 1), (1, 1)))
        self.assertEqual(walk(scale, book, (0, 1, 1), (1, 1, 0)), ((0, -1), (1, -1)))
        self.assertEqual(walk(scale, book, (1, 0, 1), (0, 2, 0)), ((0, 1), (1, -1)))
        self.assertEqual(walk(scale, book, (0, 2, 0), (1, 0, 1)), ((0, -1), (1, 1)))

    def test_first_of_several_exchanges_that_lead_alike(self):
        more = ((3, 0, 0), (1, 0, 1))
        self.assertEqual(walk(SCALE, (FIRST, more), (3, 0, 0), (1, 0, 1)), ((0, 1),))
        self.assertEqual(walk(SCALE, (more, FIRST), (3, 0, 0), (1, 0, 1)), ((0, 1),))
        self.assertEqual(walk(SCALE, (more, FIRST), (2, 0, 0), (0, 0, 1)), ((1, 1),))
        self.assertEqual(walk(SCALE, (more[::-1], FIRST), (1, 0, 1), (3, 0, 0)), ((0, 1),))

    def test_all_walks(self):
        for scale, most in BOUNDED:
            lots = slow_lots(scale, min(most + 1, 8))
            for book in some_books(scale, min(most, 6), 4, 12):
                for heaps in lots.values():
                    for one, other in product(heaps[:6], heaps[-6:]):
                        told = slow_walk(heaps, book, one, other)
                        self.assertEqual(walk(scale, book, one, other), told, (scale, book, one, other))

    def test_walks_of_many_steps(self):
        scale = ((1, 1, 1, 1),)
        book = least_exchanges(scale)
        heaps = slow_lot(scale, (8,))
        for one, other in (((8, 0, 0, 0), (0, 3, 3, 2)), ((0, 1, 0, 7), (4, 0, 4, 0)), ((2, 2, 2, 2), (0, 0, 8, 0))):
            for told in (book, book[:3], book[::-1], book[1:4]):
                self.assertEqual(walk(scale, told, one, other), slow_walk(heaps, told, one, other))
        self.assertEqual(walk(((1, 1),), (((1, 0), (0, 1)),), (40, 0), (0, 40)), ((0, 1),) * 40)

    def test_unlike(self):
        for book in ((), BOOK, (FIRST,)):
            for one, other in (((1, 0, 0), (0, 1, 0)), ((0, 0, 0), (0, 0, 1)), ((40, 40, 40), (40, 40, 39))):
                with self.assertRaises(Unlike):
                    walk(SCALE, book, one, other)
        with self.assertRaises(Unlike):
            walk(TABLE, (), (1, 0, 0, 1), (1, 1, 0, 0))
        # All rows but the last have like sums here.
        with self.assertRaises(Unlike):
            walk(((1, 1, 0), (1, 1, 1), (1, 0, 1)), (), (1, 0, 0), (0, 1, 0))

    def test_too_many(self):
        scale = ((1, 1, 1),)
        book = least_exchanges(scale)
        self.assertEqual(walk(scale, book, (25, 25, 25), (26, 24, 25)), ((2, -1),))
        self.assertEqual(walk(scale, book, (40, 35, 0), (40, 35, 0)), ())
        for one, other in (((26, 25, 25), (25, 26, 25)), ((40, 40, 40), (40, 40, 40)), ((40, 36, 0), (0, 36, 40))):
            for told in (book, ()):
                with self.assertRaises(TooMany):
                    walk(scale, told, one, other)
        with self.assertRaises(Unlike):
            walk(scale, book, (40, 40, 40), (40, 40, 39))

    def test_by_way_of_counts_above_the_greatest(self):
        scale = ((1, 2, 4),)
        book = (((0, 1, 0), (2, 0, 0)), ((40, 0, 0), (0, 0, 10)))
        self.assertIsNone(book_error(scale, book))
        steps, trail = self.check_trail(scale, book, (39, 1, 0), (1, 0, 10))
        self.assertEqual(steps, ((0, 1), (1, 1)))
        self.assertEqual(trail, [(39, 1, 0), (41, 0, 0), (1, 0, 10)])
        steps, trail = self.check_trail(scale, book, (1, 0, 10), (39, 1, 0))
        self.assertEqual(steps, ((1, -1), (0, -1)))
        self.assertIn((41, 0, 0), piece(scale, book, (39, 1, 0)))

    def test_first_walk_by_way_of_counts_above_the_greatest(self):
        scale = ((1, 1, 1),)
        book = (((0, 1, 0), (1, 0, 0)), ((40, 0, 0), (0, 0, 40)))
        steps, trail = self.check_trail(scale, book, (2, 40, 0), (2, 0, 40))
        self.assertEqual(steps, ((0, 1),) * 40 + ((1, 1),))
        self.assertEqual(max(heap[0] for heap in trail), 42)


class JoinsTest(unittest.TestCase):
    """Point [6]: joins and apart; point [1] (a), (b) and (c)."""

    def check_book(self, scale, book, told):
        self.assertIsNone(book_error(scale, book))
        self.assertIs(joins(scale, book), told is None)
        self.assertEqual(apart(scale, book), told)

    def test_example(self):
        self.assertEqual(apart(SCALE, (((2, 0, 0), (0, 0, 1)),)), ((0, 2, 0), (1, 0, 1)))

    def test_told(self):
        self.check_book(SCALE, BOOK, None)
        self.check_book(SCALE, BOOK[::-1], None)
        self.check_book(SCALE, (FIRST, SECOND[::-1]), None)
        self.check_book(SCALE, (FIRST, ((3, 0, 0), (0, 2, 0))), None)
        self.check_book(SCALE, (FIRST,), ((0, 2, 0), (1, 0, 1)))
        self.check_book(SCALE, (SECOND,), ((0, 0, 1), (2, 0, 0)))
        self.check_book(SCALE, (), ((0, 0, 1), (2, 0, 0)))
        # This one keeps the same sums, but it does not go where it is needed.
        self.check_book(SCALE, (((2, 1, 0), (0, 1, 1)), SECOND), ((0, 0, 1), (2, 0, 0)))
        self.check_book(SCALE, (FIRST, ((3, 0, 0), (1, 0, 1))), ((0, 2, 0), (1, 0, 1)))

    def test_first_of_several_heaps_apart(self):
        scale = ((1, 1, 1, 1),)
        a, b, c, d = ((0, 0, 0, 1), (0, 0, 1, 0), (0, 1, 0, 0), (1, 0, 0, 0))
        self.check_book(scale, ((a, b), (c, d)), (a, c))
        self.check_book(scale, ((a, c), (b, d)), (a, b))
        self.check_book(scale, ((a, d), (a, c)), (a, b))
        self.check_book(scale, ((b, c), (c, d)), (a, b))
        self.check_book(scale, ((d, c), (c, b), (b, a)), None)

    def test_first_heap_of_the_lot_though_it_is_not_of_the_group_apart(self):
        self.check_book(((2, 3, 3, 2),), (((1, 0, 0, 0), (0, 0, 0, 1)), ((0, 1, 0, 0), (0, 0, 1, 0))),
                        ((0, 0, 0, 3), (0, 0, 2, 0)))

    def test_heaps_of_one_group_that_are_apart(self):
        # Heaps of 6 are apart within one group, too; the sums 4 come first.
        self.check_book(SCALE, (SECOND, ((3, 0, 0), (0, 2, 0))), ((0, 0, 1), (2, 0, 0)))

    def test_scales_without_critical_sums(self):
        for scale in (((3,),), TRIANGLE, ((1, 0), (0, 1)), ((1,), (1,)), ((1,), (0,))):
            self.check_book(scale, (), None)

    def test_all_least_exchanges_join(self):
        for scale in SOME_SCALES + tuple(random_scales(150, 3)):
            least = least_exchanges(scale)
            if len(least) <= 30:
                self.check_book(scale, least, None)

    def test_all_subsets_of_least_exchanges(self):
        for scale, most in BOUNDED:
            lots = slow_lots(scale, most)
            least = least_exchanges(scale)
            for many in range(len(least) + 1):
                for book in list(combinations(least, many))[:40]:
                    self.check_book(scale, book, slow_apart(lots, book))

    def test_other_books(self):
        for scale, most in BOUNDED:
            lots = slow_lots(scale, most)
            for book in some_books(scale, most, 25, 13):
                self.check_book(scale, book, slow_apart(lots, book))

    def test_apart_is_of_the_first_critical_sums(self):
        for scale in SCALES + KNOTTED + tuple(random_scales(60, 5)):
            least = least_book(scale)
            for index in range(len(least)):
                book = least[:index] + least[index + 1:]
                critical_lots = {sums: slow_lot(scale, sums) for sums, _ in critical(scale)}
                self.check_book(scale, book, slow_apart(critical_lots, book))

    def test_heaps_of_greater_sums_are_joined(self):
        for scale, sums in ((SCALE, (60,)), (((6, 5, 4, 3),), (48,)), (TABLE, (30,) * 4), (SLACK_TRIANGLE, (5, 6, 7))):
            heaps = slow_lot(scale, sums)
            self.assertEqual(piece(scale, least_book(scale), heaps[0]), heaps)


class LeastBooksTest(unittest.TestCase):
    """Point [6]: least_size, least_book, needed, needless, is_least; point [1] (d)."""

    def test_example(self):
        self.assertEqual(least_book(SCALE), (((2, 0, 0), (0, 0, 1)), ((1, 0, 1), (0, 2, 0))))
        self.assertEqual(least_size(SCALE), 2)

    def test_told(self):
        self.assertEqual(least_book(((1, 1, 1, 1),)), (
            ((0, 0, 1, 0), (0, 0, 0, 1)), ((0, 1, 0, 0), (0, 0, 0, 1)), ((1, 0, 0, 0), (0, 0, 0, 1)),
        ))
        self.assertEqual(least_book(TABLE), (((1, 0, 0, 1), (0, 1, 1, 0)),))
        self.assertEqual(least_book(((6, 4),)), (((2, 0), (0, 3)),))
        for scale in (((3,),), TRIANGLE, ((1, 0), (0, 1)), ((1,), (1,)), ((1,), (0,))):
            self.assertEqual(least_size(scale), 0)
            self.assertEqual(least_book(scale), ())

    def test_size_and_book_of_all_scales(self):
        for scale in SOME_SCALES + tuple(random_scales(150, 6)):
            told = []
            for sums, many in critical(scale):
                groups = slow_groups(slow_lot(scale, sums))
                self.assertEqual(len(groups), many)
                told += [(group[0], groups[0][0]) for group in groups[1:]]
            book = least_book(scale)
            self.assertEqual(book, tuple(told), scale)
            self.assertEqual(least_size(scale), len(told))
            self.assertIsNone(book_error(scale, book))
            self.assertIs(is_least(scale, book), True)
            self.assertEqual(needless(scale, book), ())

    def test_books_of_which_nothing_can_be_left_out(self):
        for scale, most in BOUNDED:
            chance = Random(9)
            for book in some_books(scale, most, 10, 14):
                if joins(scale, book):
                    while needless(scale, book):
                        index = chance.choice(needless(scale, book))
                        book = book[:index] + book[index + 1:]
                    self.assertEqual(len(book), least_size(scale))
                    self.assertIs(is_least(scale, book), True)

    def test_needed_told(self):
        self.assertEqual(needed(SCALE), (((2, 0, 0), (0, 0, 1)),))
        self.assertEqual(needed(((6, 4),)), (((2, 0), (0, 3)),))
        self.assertEqual(needed(((1, 1),)), (((1, 0), (0, 1)),))
        # With three heaps of one lot any two of the three exchanges do.
        self.assertEqual(needed(((1, 1, 1),)), ())
        self.assertEqual(needed(((6, 5, 4, 3),)), (
            ((0, 1, 0, 1), (0, 0, 2, 0)), ((1, 0, 0, 0), (0, 0, 0, 2)),
        ))
        self.assertEqual(needed(TABLE), least_exchanges(TABLE))
        self.assertEqual(needed(WIDE_TABLE), least_exchanges(WIDE_TABLE))
        for scale in (((3,),), TRIANGLE, ((1,), (1,))):
            self.assertEqual(needed(scale), ())

    def test_needed_of_all_scales(self):
        for scale in SOME_SCALES + tuple(random_scales(100, 8)):
            told = []
            for sums, _ in critical(scale):
                heaps = slow_lot(scale, sums)
                if len(heaps) == 2:
                    told.append((heaps[1], heaps[0]))
            self.assertEqual(needed(scale), tuple(sorted(told)), scale)

    def test_needed_in_the_order_of_exchanges(self):
        # Their sums are 8, 10 and 9.
        self.assertEqual(needed(((3, 4, 5),)), (
            ((1, 0, 1), (0, 2, 0)), ((2, 1, 0), (0, 0, 2)), ((3, 0, 0), (0, 1, 1)),
        ))

    def test_all_exchanges_but_one(self):
        # What is needed is just that without which all others together do not join.
        for scale, most in BOUNDED:
            lots = slow_lots(scale, most)
            pairs = [pair for heaps in lots.values() for pair in combinations(heaps, 2)]
            told = []
            for pair in pairs:
                if slow_apart(lots, [other for other in pairs if other != pair]) is not None:
                    told.append(pair[::-1])
            self.assertEqual(needed(scale), tuple(sorted(told)), scale)

    def test_needless_told(self):
        both = (FIRST, SECOND, ((3, 0, 0), (0, 2, 0)))
        self.assertEqual(needless(SCALE, both), (1, 2))
        self.assertEqual(needless(SCALE, both[::-1]), (0, 1))
        self.assertEqual(needless(SCALE, BOOK), ())
        self.assertEqual(needless(SCALE, BOOK + (((2, 1, 0), (0, 1, 1)),)), (2,))
        self.assertEqual(needless(((3,),), ()), ())
        scale = ((1, 1, 1),)
        self.assertEqual(needless(scale, least_exchanges(scale)), (0, 1, 2))

    def test_needless_by_leaving_out(self):
        for scale, most in BOUNDED:
            lots = slow_lots(scale, most)
            for book in some_books(scale, most, 10, 15):
                if slow_apart(lots, book) is None:
                    shorter = [book[:index] + book[index + 1:] for index in range(len(book))]
                    told = tuple(index for index, rest in enumerate(shorter) if slow_apart(lots, rest) is None)
                    self.assertEqual(needless(scale, book), told)
                    self.assertIs(is_least(scale, book), told == ())

    def test_not_joining(self):
        for scale, book in (
            (SCALE, ()), (SCALE, (FIRST,)), (SCALE, (SECOND,)), (TABLE, ()), (((1, 1),), ()),
            (WIDE_TABLE, least_exchanges(WIDE_TABLE)[:2]),
        ):
            with self.assertRaises(NotJoining):
                needless(scale, book)
            self.assertIs(is_least(scale, book), False)

    def test_empty_book(self):
        for scale in SCALES + KNOTTED:
            self.assertIs(is_least(scale, ()), least_size(scale) == 0)
            self.assertIs(joins(scale, ()), least_size(scale) == 0)

    def test_joining_books_that_are_not_least(self):
        self.assertIs(is_least(SCALE, BOOK + (((3, 0, 0), (0, 2, 0)),)), False)
        self.assertIs(is_least(TABLE, least_book(TABLE) + (((2, 0, 0, 1), (1, 1, 1, 0)),)), False)
        self.assertIs(is_least(((3, 3),), (((1, 0), (0, 1)), ((2, 0), (0, 2)))), False)


class ConventionsTest(unittest.TestCase):
    """Point [2], and the interface, for books.py."""

    def test_names_and_arguments(self):
        told = {
            "book_error": ["scale", "value"], "piece": ["scale", "book", "heap"],
            "walk": ["scale", "book", "one", "other"], "joins": ["scale", "book"], "apart": ["scale", "book"],
            "least_size": ["scale"], "least_book": ["scale"], "needed": ["scale"], "needless": ["scale", "book"],
            "is_least": ["scale", "book"],
        }
        for name, words in told.items():
            function = getattr(books, name)
            self.assertEqual(function.__module__, "barterheaps.books")
            self.assertEqual(list(inspect.signature(function).parameters), words)

    def test_arguments_by_name(self):
        self.assertIsNone(book_error(value=BOOK, scale=SCALE))
        self.assertEqual(piece(heap=(2, 0, 0), book=BOOK, scale=SCALE), ((0, 0, 1), (2, 0, 0)))
        self.assertEqual(walk(other=(0, 0, 1), one=(2, 0, 0), book=BOOK, scale=SCALE), ((0, 1),))
        self.assertIs(joins(book=BOOK, scale=SCALE), True)
        self.assertEqual(apart(book=(), scale=SCALE), ((0, 0, 1), (2, 0, 0)))
        self.assertEqual(least_size(scale=SCALE), 2)
        self.assertEqual(least_book(scale=SCALE), BOOK)
        self.assertEqual(needed(scale=SCALE), (FIRST,))
        self.assertEqual(needless(book=BOOK, scale=SCALE), ())
        self.assertIs(is_least(book=BOOK, scale=SCALE), True)

    def test_kinds_of_what_is_returned(self):
        for scale in SCALES + KNOTTED:
            heap = (2,) * len(scale[0])
            book = least_book(scale)
            found = [book, needed(scale), needless(scale, book)]
            found += [piece(scale, book, heap), walk(scale, book, heap, heap)]
            for value in found:
                self.assertIs(type(value), tuple)
                self.assertTrue(is_plain(value))
            self.assertIs(type(least_size(scale)), int)
            self.assertIs(type(joins(scale, book)), bool)
            self.assertIs(type(is_least(scale, book)), bool)
            if book:
                self.assertIs(type(apart(scale, ())), tuple)
                self.assertTrue(is_plain(apart(scale, ())))
        self.assertTrue(is_plain(walk(SCALE, BOOK, (3, 0, 0), (0, 2, 0))))
        self.assertIs(type(book_error(SCALE, ())), type(None))
        self.assertIs(type(book_error(SCALE, None)), tuple)

    def test_errors_are_barter_errors(self):
        for function, given in (
            (needless, (SCALE, ())), (walk, (SCALE, (), (1, 0, 0), (0, 1, 0))),
            (piece, (((1, 1, 1),), (), (40, 40, 40))),
        ):
            with self.assertRaises(BarterError):
                function(*given)

    def test_the_same_answer_again(self):
        for _ in range(2):
            self.assertEqual(walk(SCALE, BOOK, (3, 0, 0), (0, 2, 0)), ((0, 1), (1, 1)))
            self.assertRaises(NotJoining, needless, SCALE, ())
            self.assertEqual(apart(SCALE, (FIRST,)), ((0, 2, 0), (1, 0, 1)))


if __name__ == "__main__":
    unittest.main()
