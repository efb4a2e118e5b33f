import inspect
import unittest
from itertools import combinations, product
from random import Random

from barterheaps import caps as module
from barterheaps.books import book_error, least_book
from barterheaps.caps import apart_under_caps, apart_within, joins_under_caps, joins_within, piece_within
from barterheaps.exchanges import least_exchanges
from values import (
    KNOTTED, SCALES, SLACK_TRIANGLE, TABLE, TRIANGLE, TWIN_TRIANGLE, WIDE_TABLE,
    is_plain, random_scales, slow_edges_of, slow_lot, slow_sums,
)

SCALE = ((2, 3, 4),)
FIRST = ((2, 0, 0), (0, 0, 1))
SECOND = ((1, 0, 1), (0, 2, 0))
BOOK = (FIRST, SECOND)

SOME_SCALES = (
    SCALE, ((1, 2, 3),), ((1, 1, 1),), ((6, 4),), ((5,),), ((2, 3, 3, 2),), ((1, 1, 1, 1),), ((3, 5, 6, 1),), TABLE,
    TRIANGLE, SLACK_TRIANGLE, ((1, 1, 1, 0), (0, 0, 0, 1)), ((0, 1, 1), (1, 1, 1)), KNOTTED[0], KNOTTED[1],
)


def slow_capped(scale, caps):
    """A dict from sums to the ascending lists of their heaps that keep the caps."""
    lots = {}
    for heap in product(*[range(cap + 1) for cap in caps]):
        lots.setdefault(slow_sums(scale, heap), []).append(heap)
    return lots


def slow_piece(heaps, book, start):
    """The heaps, among these, that are joined with start on walks through these only."""
    kept = set(heaps)
    found = {start}
    fresh = [start]
    while fresh:
        behind = {other for heap in fresh for _, _, other in slow_edges_of(heap, book)}
        fresh = sorted((behind & kept) - found)
        found |= set(fresh)
    return tuple(sorted(found))


def slow_apart_within(scale, book, caps):
    """None if all heaps that keep the caps are joined, otherwise the pair of the first sums."""
    lots = slow_capped(scale, caps)
    for sums in sorted(lots):
        joined = slow_piece(lots[sums], book, lots[sums][0])
        for heap in lots[sums]:
            if heap not in joined:
                return lots[sums][0], heap
    return None


def some_caps(kinds, many, seed):
    """Rows of caps from 0 to 3."""
    chance = Random(seed)
    return [(0,) * kinds, (1,) * kinds, (2,) * kinds] + [
        tuple(chance.randint(0, 3) for _ in range(kinds)) for _ in range(many)
    ]


def some_books(scale, many, seed):
    """Books of least exchanges, so and turned, and of others that fit small heaps."""
    chance = Random(seed)
    least = list(least_exchanges(scale))
    lots = slow_capped(scale, (2,) * len(scale[0]))
    pairs = least + [pair for heaps in list(lots.values()) for pair in combinations(heaps, 2)][:300]
    found = [(), tuple(least[:30]), tuple(pair[::-1] for pair in least[29::-1])]
    for _ in range(many):
        book = []
        for pair in chance.sample(pairs, min(len(pairs), chance.randint(1, 8))):
            if pair not in book and pair[::-1] not in book:
                book.append(pair[::chance.choice((-1, 1))])
        found.append(tuple(book))
    return found


class PieceWithinTest(unittest.TestCase):
    """Point [14]: piece_within."""

    def test_told(self):
        self.assertEqual(piece_within(SCALE, BOOK, (3, 3, 3), (3, 0, 0)), ((0, 2, 0), (1, 0, 1), (3, 0, 0)))
        self.assertEqual(piece_within(SCALE, BOOK, (3, 3, 0), (3, 0, 0)), ((3, 0, 0),))
        self.assertEqual(piece_within(SCALE, BOOK, (3, 1, 3), (3, 0, 0)), ((1, 0, 1), (3, 0, 0)))
        self.assertEqual(piece_within(SCALE, BOOK, (2, 3, 3), (0, 2, 0)), ((0, 2, 0), (1, 0, 1)))
        self.assertEqual(piece_within(SCALE, (), (3, 3, 3), (3, 3, 3)), ((3, 3, 3),))

    def test_caps_of_nothing(self):
        for scale in SOME_SCALES:
            nothing = (0,) * len(scale[0])
            self.assertEqual(piece_within(scale, least_exchanges(scale), nothing, nothing), (nothing,))

    def test_exchanges_greater_than_the_caps(self):
        book = (((4, 0), (0, 4)), ((4, 3), (3, 4)))
        self.assertEqual(piece_within(((1, 1),), book, (3, 3), (3, 1)), ((3, 1),))
        self.assertEqual(piece_within(((1, 1),), book + (((2, 0), (0, 2)),), (3, 3), (3, 1)), ((1, 3), (3, 1)))

    def test_all_heaps(self):
        for scale in SOME_SCALES:
            for number, book in enumerate(some_books(scale, 4, 1)):
                for caps in some_caps(len(scale[0]), 3, number):
                    for heaps in list(slow_capped(scale, caps).values())[::3]:
                        for heap in heaps[::2]:
                            told = slow_piece(heaps, book, heap)
                            self.assertEqual(piece_within(scale, book, caps, heap), told, (scale, book, caps, heap))


class WithinTest(unittest.TestCase):
    """Point [14]: joins_within and apart_within."""

    def check(self, scale, book, caps, told):
        self.assertIsNone(book_error(scale, book))
        self.assertEqual(apart_within(scale, book, caps), told, (scale, book, caps))
        self.assertIs(joins_within(scale, book, caps), told is None)

    def test_told(self):
        self.check(SCALE, BOOK, (3, 3, 3), None)
        self.check(SCALE, BOOK, (3, 2, 0), ((0, 2, 0), (3, 0, 0)))
        self.check(SCALE, BOOK + (((3, 0, 0), (0, 2, 0)),), (3, 2, 0), None)
        self.check(SCALE, (), (1, 1, 1), None)
        self.check(SCALE, (), (2, 1, 1), ((0, 0, 1), (2, 0, 0)))
        self.check(SCALE, (FIRST,), (1, 2, 1), ((0, 2, 0), (1, 0, 1)))

    def test_books_that_join_all_heaps_need_not_join_within(self):
        self.check(SCALE, least_book(SCALE), (0, 3, 3), None)
        # Four of the second kind for three of the third do not fit these caps, but one more would be let in.
        self.check(SCALE, least_book(SCALE), (0, 4, 3), ((0, 0, 3), (0, 4, 0)))
        self.check(SCALE, least_book(SCALE), (1, 2, 2), ((0, 0, 2), (1, 2, 0)))
        self.check(SCALE, least_exchanges(SCALE), (0, 4, 3), None)

    def test_books_that_do_not_join_all_heaps_may_join_within(self):
        self.check(SCALE, (SECOND,), (1, 3, 1), None)
        self.check(TABLE, (), (0, 3, 3, 3), None)
        self.check(TABLE, (), (1, 1, 1, 1), ((0, 1, 1, 0), (1, 0, 0, 1)))

    def test_no_caps(self):
        for scale in SOME_SCALES:
            self.check(scale, (), (0,) * len(scale[0]), None)
            self.check(scale, least_exchanges(scale)[:30], (0,) * len(scale[0]), None)

    def test_pair_of_the_first_sums(self):
        self.check(((1, 1, 1),), (((1, 0, 0), (0, 1, 0)),), (3, 3, 3), ((0, 0, 1), (0, 1, 0)))
        self.check(((1, 1, 1),), (((1, 0, 0), (0, 0, 1)),), (3, 3, 3), ((0, 0, 1), (0, 1, 0)))
        self.check(((1, 1, 1),), (((0, 1, 0), (0, 0, 1)),), (3, 3, 3), ((0, 0, 1), (1, 0, 0)))
        # The sums 2 come behind the sums 1, which have one heap.
        self.check(((1, 2),), (), (3, 3), ((0, 1), (2, 0)))

    def test_books_of_all_kinds(self):
        for scale in SOME_SCALES:
            for number, book in enumerate(some_books(scale, 8, 2)):
                for caps in some_caps(len(scale[0]), 3, 10 + number):
                    self.check(scale, book, caps, slow_apart_within(scale, book, caps))

    def test_six_kinds_with_the_greatest_caps(self):
        caps = (3,) * 6
        for scale in (WIDE_TABLE, TWIN_TRIANGLE, SLACK_TRIANGLE, KNOTTED[3]):
            least = least_exchanges(scale)
            self.check(scale, least, caps, None)
            for index in range(len(least)):
                book = least[:index] + least[index + 1:]
                self.check(scale, book, caps, slow_apart_within(scale, book, caps))
        single = tuple(tuple(int(at == kind) for at in range(6)) for kind in range(6))
        self.check(single, (), caps, None)

    def test_six_kinds_with_a_full_book(self):
        lots = slow_capped(WIDE_TABLE, (2,) * 6)
        book = tuple(heaps[:2][::-1] for heaps in map(tuple, lots.values()) if len(heaps) > 1)[:30]
        self.assertEqual(len(book), 30)
        self.check(WIDE_TABLE, book, (3,) * 6, slow_apart_within(WIDE_TABLE, book, (3,) * 6))


class UnderCapsTest(unittest.TestCase):
    """Point [14]: joins_under_caps and apart_under_caps; point [1] (f)."""

    def check(self, scale, book, told):
        self.assertEqual(apart_under_caps(scale, book), told)
        self.assertIs(joins_under_caps(scale, book), told is None)

    def test_told(self):
        least = least_exchanges(SCALE)
        self.check(SCALE, least, None)
        self.check(SCALE, least[::-1], None)
        self.check(SCALE, (), ((0, 4, 0), (0, 0, 3), (0, 4, 3)))
        self.check(SCALE, BOOK, ((0, 4, 0), (0, 0, 3), (0, 4, 3)))
        self.check(SCALE, least[:1] + least[3:], ((1, 0, 1), (0, 2, 0), (1, 2, 1)))
        self.check(((6, 5),), (), ((5, 0), (0, 6), (5, 6)))
        self.check(((6, 5),), (((0, 6), (5, 0)),), None)

    def test_nothing_to_exchange(self):
        for scale in (((3,),), TRIANGLE, ((1, 0), (0, 1)), ((1,), (1,)), ((1,), (0,))):
            self.check(scale, (), None)

    def test_so_and_turned(self):
        for scale in SCALES + KNOTTED + tuple(random_scales(60, 3)):
            least = least_exchanges(scale)
            if len(least) <= 30:
                chance = Random(4)
                self.check(scale, least, None)
                self.check(scale, tuple(pair[::-1] for pair in least), None)
                turned = [pair[::chance.choice((-1, 1))] for pair in least]
                self.check(scale, tuple(chance.sample(turned, len(turned))), None)

    def test_left_out(self):
        for scale in SCALES + KNOTTED:
            least = least_exchanges(scale)
            for index, (take, put) in enumerate(least):
                caps = tuple(max(less, more) for less, more in zip(take, put))
                self.check(scale, least[:index] + least[index + 1:], (take, put, caps))
                self.check(scale, least[:index], (take, put, caps))

    def test_what_is_not_bare_does_not_stand_for_it(self):
        self.check(((1, 1),), (((2, 0), (1, 1)),), ((1, 0), (0, 1), (1, 1)))
        self.check(((1, 1),), (((2, 0), (0, 2)),), ((1, 0), (0, 1), (1, 1)))

    def test_further_ones_change_nothing(self):
        self.check(((1, 1),), (((2, 0), (1, 1)), ((0, 1), (1, 0)), ((3, 0), (0, 3))), None)
        more = (((2, 1, 0), (0, 1, 1)), ((4, 0, 0), (0, 0, 2)))
        self.check(SCALE, more + least_exchanges(SCALE), None)
        self.check(SCALE, more + least_exchanges(SCALE)[1:], ((0, 4, 0), (0, 0, 3), (0, 4, 3)))

    def test_no_other_heap_keeps_the_caps_that_are_told(self):
        for scale in SOME_SCALES + KNOTTED:
            least = least_exchanges(scale)
            for index in range(min(len(least), 30)):
                take, put, caps = apart_under_caps(scale, least[:index])
                lot = slow_lot(scale, slow_sums(scale, take))
                kept = [heap for heap in lot if all(count <= cap for count, cap in zip(heap, caps))]
                self.assertEqual(sorted(kept), [put, take])
                self.assertEqual(piece_within(scale, least[:index], caps, take), (take,))

    def test_held_against_many_caps(self):
        for scale in SOME_SCALES:
            least = least_exchanges(scale)
            if len(least) <= 30:
                for caps in some_caps(len(scale[0]), 6, 5):
                    self.assertIs(joins_within(scale, least, caps), True)
        # Caps that are beyond what is passed otherwise.
        for caps in ((7, 7, 7), (1, 9, 4), (9, 0, 5)):
            self.assertIs(joins_within(SCALE, least_exchanges(SCALE), caps), True)

    def test_caps_above_the_greatest(self):
        self.assertEqual(apart_under_caps(((6, 5, 6, 5),), ())[2], (0, 0, 5, 6))
        told = apart_under_caps(((1, 6),), ())
        self.assertEqual(told, ((6, 0), (0, 1), (6, 1)))


class ConventionsTest(unittest.TestCase):
    """Point [2], and the interface, for caps.py."""

    def test_names_and_arguments(self):
        told = {
            "piece_within": ["scale", "book", "caps", "heap"], "joins_within": ["scale", "book", "caps"],
            "apart_within": ["scale", "book", "caps"], "joins_under_caps": ["scale", "book"],
            "apart_under_caps": ["scale", "book"],
        }
        for name, words in told.items():
            function = getattr(module, name)
            self.assertEqual(function.__module__, "barterheaps.caps")
            self.assertEqual(list(inspect.signature(function).parameters), words)

    def test_arguments_by_name(self):
        self.assertEqual(piece_within(heap=(2, 0, 0), caps=(2, 2, 2), book=BOOK, scale=SCALE), ((0, 0, 1), (2, 0, 0)))
        self.assertIs(joins_within(caps=(3, 3, 3), book=BOOK, scale=SCALE), True)
        self.assertEqual(apart_within(caps=(3, 2, 0), book=BOOK, scale=SCALE), ((0, 2, 0), (3, 0, 0)))
        self.assertIs(joins_under_caps(book=BOOK, scale=SCALE), False)
        self.assertEqual(apart_under_caps(book=BOOK, scale=SCALE), ((0, 4, 0), (0, 0, 3), (0, 4, 3)))

    def test_kinds_of_what_is_returned(self):
        for scale in SOME_SCALES:
            caps = (1,) * len(scale[0])
            found = [piece_within(scale, (), caps, caps)]
            if least_exchanges(scale):
                found.append(apart_under_caps(scale, ()))
            for value in found:
                self.assertIs(type(value), tuple)
                self.assertTrue(is_plain(value))
            self.assertIs(type(joins_within(scale, (), caps)), bool)
            self.assertIs(type(joins_under_caps(scale, ())), bool)
        self.assertTrue(is_plain(apart_within(SCALE, BOOK, (3, 2, 0))))


if __name__ == "__main__":
    unittest.main()
