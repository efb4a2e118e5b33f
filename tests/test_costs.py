import inspect
import unittest
from itertools import combinations, product
from random import Random

from barterheaps import costs
from barterheaps.books import book_error, piece
from barterheaps.costs import (
    cheapest, cost, is_price_row, lowering_book, lowers, parted_prices, stuck, way_down,
)
from barterheaps.errors import TooMany
from barterheaps.exchanges import back, forth, least_exchanges
from barterheaps.scales import free, lot, sums_of
from values import (
    KNOTTED, OTHERS, SCALES, SLACK_TRIANGLE, TABLE, TRIANGLE, TWIN_TRIANGLE, WIDE_TABLE,
    bounded_lots, greatest_sum, is_plain, random_scales, slow_cheapest, slow_cost, slow_least_exchanges,
    slow_lot, slow_lowered, slow_lowering_book, some_prices,
)

SCALE = ((2, 3, 4),)
FIRST = ((2, 0, 0), (0, 0, 1))
SECOND = ((1, 0, 1), (0, 2, 0))
BOOK = (FIRST, SECOND)
GREAT = 10 ** 30 - 1
EQUAL = ((1, 1, 1, 1),)

ROWS = (
    SCALE, ((1, 2, 3),), ((3, 4, 5),), ((6, 4),), ((6, 5),), ((1, 1, 1, 1),), ((2, 3, 3, 2),), ((3, 5, 6, 1),),
    ((6, 5, 6, 5),), ((6, 5, 4, 3),), ((5,),), ((1, 1),), ((1, 6, 1),),
)
SEVERAL = (
    TABLE, WIDE_TABLE, SLACK_TRIANGLE, TWIN_TRIANGLE, TRIANGLE, ((1, 1, 1, 1), (1, 1, 1, 1)),
    ((1, 1, 1, 1, 0), (0, 0, 0, 0, 1)), ((0, 0), (1, 1)), ((1,), (0,)),
) + KNOTTED


def random_books(scale, many, seed):
    """So many books that fit the scale, of least exchanges, turned ones, and ones that are not bare."""
    chance = Random(seed)
    lots = bounded_lots(scale, 2 if len(scale) > 1 else 8)
    pairs = list(least_exchanges(scale)) * 2
    pairs += [pair for heaps in lots.values() for pair in combinations(heaps, 2)]
    found = [()]
    for _ in range(many):
        book = []
        for pair in chance.sample(pairs, min(len(pairs), chance.randint(0, 12))):
            if pair not in book and pair[::-1] not in book:
                book.append(pair[::chance.choice((-1, 1))])
        found.append(tuple(book))
    return found


class CostTest(unittest.TestCase):
    """Point [13]: cost."""

    def test_told(self):
        self.assertEqual(cost((5, 7, 11), (1, 2, 3)), 52)
        self.assertEqual(cost((5, -7, 0), (1, 2, 3)), -9)
        self.assertEqual(cost((0, 0, 0), (40, 40, 40)), 0)
        self.assertEqual(cost((9,), (0,)), 0)

    def test_great_prices(self):
        self.assertEqual(cost((GREAT, -GREAT), (40, 39)), GREAT)
        self.assertEqual(cost((GREAT,) * 6, (40,) * 6), 240 * GREAT)
        self.assertEqual(cost((-GREAT, 1), (40, 40)), 40 - 40 * GREAT)

    def test_thing_by_thing(self):
        for prices in product((-2, 0, 1, GREAT), repeat=3):
            for heap in product((0, 1, 5), repeat=3):
                self.assertEqual(cost(prices, heap), slow_cost(prices, heap))


class CheapestTest(unittest.TestCase):
    """Point [13]: cheapest."""

    def test_told(self):
        self.assertEqual(lot(SCALE, (6,)), ((0, 2, 0), (1, 0, 1), (3, 0, 0)))
        self.assertEqual(cheapest(SCALE, (1, 0, 0), (6,)), (0, 2, 0))
        self.assertEqual(cheapest(SCALE, (0, 1, 1), (6,)), (3, 0, 0))
        self.assertEqual(cheapest(SCALE, (3, 5, 4), (6,)), (1, 0, 1))
        self.assertEqual(cheapest(SCALE, (-1, 0, 0), (6,)), (3, 0, 0))

    def test_ties_are_for_the_lesser_heap(self):
        self.assertEqual(cheapest(SCALE, (0, 0, 0), (6,)), (0, 2, 0))
        self.assertEqual(cheapest(SCALE, (2, 3, 4), (6,)), (0, 2, 0))
        self.assertEqual(cheapest(SCALE, (1, 5, 2), (6,)), (1, 0, 1))
        self.assertEqual(cheapest(SCALE, (-2, -3, -4), (12,)), (0, 0, 3))

    def test_empty_lot(self):
        self.assertIsNone(cheapest(SCALE, (1, 1, 1), (1,)))
        self.assertIsNone(cheapest(SCALE, (1, 1, 1), (-5,)))
        self.assertIsNone(cheapest(SCALE, (1, 1, 1), (-10 ** 39,)))
        self.assertIsNone(cheapest(TABLE, (1, 1, 1, 1), (1, 1, 1, 2)))

    def test_heap_of_nothing(self):
        for scale in SCALES:
            for prices in some_prices(scale, 1, 1):
                self.assertEqual(cheapest(scale, prices, (0,) * len(scale)), (0,) * len(scale[0]))

    def test_all_lots(self):
        for scale in ROWS + SEVERAL:
            lots = bounded_lots(scale, 2 if len(scale) > 1 else 12)
            for prices in some_prices(scale, 2, 2):
                for sums, heaps in lots.items():
                    self.assertEqual(cheapest(scale, prices, sums), slow_cheapest(heaps, prices))

    def test_greatest_lots(self):
        self.assertEqual(cheapest(((1, 1),), (1, 0), (2999,)), (0, 2999))
        self.assertEqual(cheapest(((1, 1),), (0, 1), (2999,)), (2999, 0))
        for scale, sums in ((((1, 1),), (3000,)), (TABLE, (3000,) * 4), (((6, 5, 4, 3),), (10000,))):
            with self.assertRaises(TooMany):
                cheapest(scale, (0,) * len(scale[0]), sums)


class PriceRowTest(unittest.TestCase):
    """Point [13]: price rows."""

    def test_price_rows(self):
        for value in ((0, 0, 0), (1, -2, 3), (GREAT, -GREAT, 0), (-1, -1, -1)):
            self.assertIs(is_price_row(SCALE, value), True)

    def test_others(self):
        bad = OTHERS + (
            (), (1,), (1, 2), (1, 2, 3, 4), [1, 2, 3], {1: 1, 2: 2, 3: 3}, "123", (10 ** 30, 0, 0), (0, 0, -10 ** 30),
            (True, 0, 0), (0, 0, False), (None, 0, 0), (1, 2, "3"), (1, (2,), 3), (1, [2], 3), ((1, 2, 3),), (0, {}, 0),
        )
        for value in bad:
            self.assertIs(is_price_row(SCALE, value), False)


class LoweringBookTest(unittest.TestCase):
    """Point [13]: lowering_book."""

    def test_told(self):
        self.assertEqual(lowering_book(SCALE, (0, 0, 0)), (
            ((0, 4, 0), (0, 0, 3)), ((1, 0, 1), (0, 2, 0)), ((1, 2, 0), (0, 0, 2)), ((2, 0, 0), (0, 0, 1)),
        ))
        self.assertEqual(lowering_book(SCALE, (0, 1, 1)), (((0, 0, 1), (2, 0, 0)), ((0, 2, 0), (3, 0, 0))))
        self.assertEqual(lowering_book(SCALE, (1, 0, 1)), (
            ((0, 0, 2), (1, 2, 0)), ((1, 0, 1), (0, 2, 0)), ((2, 0, 0), (0, 0, 1)),
        ))
        self.assertEqual(lowering_book(TABLE, (0, 0, 0, 0)), (((1, 0, 0, 1), (0, 1, 1, 0)),))
        self.assertEqual(lowering_book(TABLE, (0, 0, 1, 0)), (((0, 1, 1, 0), (1, 0, 0, 1)),))

    def test_equal_weights_lead_to_the_cheapest_kind(self):
        for cheap in range(4):
            prices = tuple(int(kind != cheap) for kind in range(4))
            units = [tuple(int(at == kind) for at in range(4)) for kind in range(4)]
            told = tuple(sorted((unit, units[cheap]) for unit in units if unit != units[cheap]))
            self.assertEqual(lowering_book(EQUAL, prices), told)

    def test_nothing_to_exchange(self):
        for scale in (((3,),), TRIANGLE, ((1, 0), (0, 1)), ((1,), (1,)), ((1,), (0,))):
            for prices in some_prices(scale, 1, 3):
                self.assertEqual(lowering_book(scale, prices), ())

    def check(self, scale, many, seed, more=0):
        lots = bounded_lots(scale, greatest_sum(scale) + more)
        least = set(slow_least_exchanges(scale))
        for prices in some_prices(scale, many, seed):
            book = lowering_book(scale, prices)
            self.assertEqual(book, slow_lowering_book(lots, prices), (scale, prices))
            self.assertIsNone(book_error(scale, book))
            for pair in book:
                self.assertTrue(pair in least or pair[::-1] in least)

    def test_one_row(self):
        for scale in ROWS:
            self.check(scale, 6, 4)

    def test_all_rows_of_three_weights(self):
        for row in product(range(1, 7), repeat=3):
            self.check((row,), 1, 5)

    def test_no_take_of_greater_sums(self):
        for scale in ROWS[:5]:
            self.check(scale, 2, 6, more=12)
        for scale in (TABLE, TRIANGLE, KNOTTED[1]):
            self.check(scale, 2, 7, more=2)

    def test_several_rows(self):
        for scale in SEVERAL + SCALES:
            self.check(scale, 2, 8)

    def test_most_free(self):
        chosen = [scale for scale in random_scales(120, 9) if free(scale) == 3]
        self.assertGreater(len(chosen), 5)
        for scale in chosen[:12]:
            self.check(scale, 2, 10)

    def test_multiples_of_the_rows_and_of_the_prices_change_nothing(self):
        for scale in (SCALE, ((3, 5, 6, 1),), TABLE, SLACK_TRIANGLE):
            for prices in some_prices(scale, 1, 11):
                book = lowering_book(scale, prices)
                for row in scale:
                    for times in (-7, 1, 10 ** 20):
                        shifted = tuple(price + times * weight for price, weight in zip(prices, row))
                        self.assertEqual(lowering_book(scale, shifted), book)
                self.assertEqual(lowering_book(scale, tuple(3 * price for price in prices)), book)

    def test_small_differences_of_great_prices(self):
        self.assertEqual(lowering_book(((1, 1),), (GREAT, GREAT - 1)), (((1, 0), (0, 1)),))
        self.assertEqual(lowering_book(((1, 1),), (GREAT - 1, GREAT)), (((0, 1), (1, 0)),))
        self.assertEqual(lowering_book(((1, 1),), (GREAT, GREAT)), (((1, 0), (0, 1)),))
        self.assertEqual(lowering_book(((1, 1),), (1 - GREAT, -GREAT)), (((1, 0), (0, 1)),))


class LowersTest(unittest.TestCase):
    """Point [13]: lowers and stuck; point [1] (e)."""

    def check(self, scale, prices, book, told):
        self.assertEqual(stuck(scale, prices, book), told, (scale, prices, book))
        self.assertIs(lowers(scale, prices, book), told is None)

    def test_told(self):
        self.check(SCALE, (0, 1, 1), BOOK, None)
        self.check(SCALE, (0, 1, 1), (FIRST, ((3, 0, 0), (0, 2, 0))), None)
        self.check(SCALE, (0, 1, 1), (FIRST,), (0, 2, 0))
        self.check(SCALE, (0, 1, 1), (((3, 0, 0), (0, 2, 0)),), (0, 0, 1))
        self.check(SCALE, (0, 1, 1), (), (0, 0, 1))
        # Both exchanges go, but not all heaps are lowered by them.
        self.check(SCALE, (0, 0, 0), BOOK, (0, 4, 0))
        self.check(SCALE, (0, 0, 0), BOOK + (((1, 2, 0), (0, 0, 2)),), (0, 4, 0))
        self.check(SCALE, (0, 0, 0), BOOK + (((0, 0, 3), (0, 4, 0)),), (1, 2, 0))
        self.check(SCALE, (0, 0, 0), least_exchanges(SCALE), None)

    def test_what_is_in_both_must_be_there(self):
        self.check(((1, 1),), (1, 0), (((1, 0), (0, 1)),), None)
        self.check(((1, 1),), (1, 0), (((2, 0), (1, 1)),), (1, 0))
        self.check(((1, 1),), (1, 0), (((1, 1), (0, 2)),), (1, 0))

    def test_not_the_way_up(self):
        self.check(((1, 1),), (1, 0), (((0, 1), (1, 0)),), None)
        self.check(((6, 4),), (1, 1), (((0, 3), (2, 0)),), None)
        self.check(((6, 4),), (1, 1), (((4, 0), (0, 6)),), (0, 3))

    def test_a_step_to_a_cheaper_heap_that_is_not_the_cheapest(self):
        self.check(EQUAL, (3, 2, 1, 0), (((1, 0, 0, 0), (0, 1, 0, 0)), ((0, 1, 0, 0), (0, 0, 1, 0)),
                                         ((0, 0, 1, 0), (0, 0, 0, 1))), None)
        self.check(EQUAL, (3, 2, 1, 0), (((1, 0, 0, 0), (0, 1, 0, 0)), ((0, 1, 0, 0), (0, 0, 1, 0))), (0, 0, 1, 0))

    def test_lowering_books_lower_all_heaps(self):
        for scale in ROWS + SEVERAL:
            for prices in some_prices(scale, 2, 12):
                book = lowering_book(scale, prices)
                self.check(scale, prices, book, None)
                self.check(scale, prices, tuple(pair[::-1] for pair in book[::-1]), None)
                for index, (take, _) in enumerate(book):
                    self.check(scale, prices, book[:index] + book[index + 1:], take)

    def test_least_exchanges_lower_all_heaps(self):
        for scale in ROWS + SEVERAL + tuple(random_scales(60, 13)):
            if len(least_exchanges(scale)) <= 30:
                for prices in some_prices(scale, 2, 14):
                    self.check(scale, prices, least_exchanges(scale), None)

    def test_books_of_all_kinds(self):
        """Held against whether each heap that is not the cheapest is lowered, first those of the takes."""
        for scale in ROWS + SEVERAL:
            lots = bounded_lots(scale, greatest_sum(scale))
            for number, book in enumerate(random_books(scale, 8, 15)):
                for prices in some_prices(scale, 1, 16 + number)[number:number + 4]:
                    told = [take for take, _ in slow_lowering_book(lots, prices)
                            if not slow_lowered(take, prices, book)]
                    self.check(scale, prices, book, told[0] if told else None)
                    dear = [heap for heaps in lots.values() for heap in heaps if heap != slow_cheapest(heaps, prices)]
                    everywhere = all(slow_lowered(heap, prices, book) for heap in dear)
                    self.assertIs(lowers(scale, prices, book), everywhere)


class WayDownTest(unittest.TestCase):
    """Point [13]: way_down."""

    def test_told(self):
        self.assertEqual(way_down(SCALE, (0, 1, 1), BOOK, (0, 2, 0)), (((1, -1), (0, -1)), (3, 0, 0)))
        self.assertEqual(way_down(SCALE, (0, 0, 0), BOOK, (3, 0, 0)), (((0, 1), (1, 1)), (0, 2, 0)))
        self.assertEqual(way_down(SCALE, (0, 0, 0), (FIRST,), (3, 0, 0)), (((0, 1),), (1, 0, 1)))

    def test_no_step(self):
        for scale in ROWS + SEVERAL:
            heap = (3,) * len(scale[0])
            for prices in some_prices(scale, 1, 17):
                self.assertEqual(way_down(scale, prices, (), heap), ((), heap))
                least = slow_cheapest(slow_lot(scale, sums_of(scale, (1,) * len(scale[0]))), prices)
                self.assertEqual(way_down(scale, prices, least_exchanges(scale), least), ((), least))

    def test_first_step_in_order(self):
        book = (((1, 0, 0, 0), (0, 1, 0, 0)), ((0, 0, 0, 1), (1, 0, 0, 0)))
        self.assertEqual(way_down(EQUAL, (3, 2, 1, 0), book, (2, 0, 0, 0)), (((0, 1), (0, 1)), (0, 2, 0, 0)))
        self.assertEqual(way_down(EQUAL, (3, 2, 1, 0), book[::-1], (2, 0, 0, 0)), (((0, -1), (0, -1)), (0, 0, 0, 2)))

    def test_ties(self):
        self.assertEqual(way_down(EQUAL, (1, 1, 1, 1), (((1, 0, 0, 0), (0, 1, 0, 0)),), (2, 0, 0, 0)),
                         (((0, 1), (0, 1)), (0, 2, 0, 0)))
        self.assertEqual(way_down(EQUAL, (1, 1, 1, 1), (((0, 1, 0, 0), (1, 0, 0, 0)),), (0, 2, 0, 0)),
                         ((), (0, 2, 0, 0)))

    def test_step_by_step(self):
        for scale in ROWS + SEVERAL:
            chance = Random(18)
            for number, book in enumerate(random_books(scale, 8, 19)):
                for prices in some_prices(scale, 1, 20)[number:number + 4]:
                    heap = tuple(chance.randint(0, 3) for _ in scale[0])
                    told, end = [], heap
                    while slow_lowered(end, prices, book):
                        step, end = slow_lowered(end, prices, book)[0]
                        told.append(step)
                    self.assertEqual(way_down(scale, prices, book, heap), (tuple(told), end))

    def test_books_that_lower_all_heaps_lead_to_the_cheapest(self):
        for scale in ROWS + SEVERAL:
            for prices in some_prices(scale, 1, 21):
                book = lowering_book(scale, prices)
                heap = (2,) * len(scale[0])
                walk, end = way_down(scale, prices, book, heap)
                self.assertEqual(end, cheapest(scale, prices, sums_of(scale, heap)))
                self.assertEqual(len(walk), len(set(self.trail(book, walk, heap))) - 1)
                self.assertIn(end, piece(scale, book, heap))

    def trail(self, book, walk, heap):
        """The heaps on the way, one cheaper than the one before."""
        heaps = [heap]
        for index, way in walk:
            heaps.append((forth if way == 1 else back)(book[index], heaps[-1]))
        return heaps

    def test_many_steps(self):
        self.assertEqual(way_down(((1, 1),), (1, 0), (((1, 0), (0, 1)),), (40, 40)), (((0, 1),) * 40, (0, 80)))
        scale = ((1, 1, 1),)
        walk, end = way_down(scale, (2, 1, 0), least_exchanges(scale), (25, 25, 25))
        self.assertEqual(end, (0, 0, 75))
        self.assertEqual(len(walk), 50)

    def test_too_many(self):
        scale = ((1, 1, 1),)
        self.assertEqual(way_down(scale, (0, 0, 0), (), (40, 35, 0)), ((), (40, 35, 0)))
        for heap in ((26, 25, 25), (40, 36, 0), (40, 40, 40), (0, 36, 40)):
            for book in ((), least_exchanges(scale)):
                with self.assertRaises(TooMany):
                    way_down(scale, (1, 2, 3), book, heap)


class PartedPricesTest(unittest.TestCase):
    """Point [13]: parted_prices."""

    def check(self, scale, lots, one, other):
        """Checks it by the cheapest heaps of all lots."""
        cheap = {slow_cheapest(heaps, one) for heaps in lots.values()}
        told = [take for take, _ in slow_lowering_book(lots, other) if take in cheap]
        self.assertEqual(parted_prices(scale, one, other), told[0] if told else None, (scale, one, other))
        self.assertEqual(not told, cheap == {slow_cheapest(heaps, other) for heaps in lots.values()})

    def test_told(self):
        self.assertIsNone(parted_prices(SCALE, (0, 1, 1), (0, 1, 1)))
        self.assertEqual(parted_prices(SCALE, (0, 0, 0), (0, 1, 1)), (0, 0, 1))
        self.assertEqual(parted_prices(SCALE, (0, 1, 1), (0, 0, 0)), (2, 0, 0))
        self.assertEqual(parted_prices(((1, 1),), (1, 0), (0, 1)), (0, 1))
        self.assertEqual(parted_prices(((1, 1),), (0, 1), (1, 0)), (1, 0))
        self.assertIsNone(parted_prices(((1, 1),), (0, 0), (1, 0)))
        self.assertEqual(parted_prices(((1, 1),), (0, 0), (0, 1)), (0, 1))

    def test_pairs_of_prices(self):
        for scale in ROWS + SEVERAL:
            lots = bounded_lots(scale, greatest_sum(scale))
            rows = some_prices(scale, 2, 22)
            for one, other in list(zip(rows, rows[1:])) + list(zip(rows[3:], rows)):
                self.check(scale, lots, one, other)

    def test_the_same_by_multiples(self):
        for scale in ROWS + SEVERAL:
            for prices in some_prices(scale, 1, 23):
                self.assertIsNone(parted_prices(scale, prices, prices))
                for times, shift in ((1, 5), (2, -3), (7, 10 ** 20), (10 ** 8, 0)):
                    more = tuple(times * price + shift * weight for price, weight in zip(prices, scale[-1]))
                    self.assertIsNone(parted_prices(scale, prices, more))
                    self.assertIsNone(parted_prices(scale, more, prices))

    def test_the_opposite_is_parted_where_there_is_no_tie(self):
        self.assertEqual(parted_prices(TABLE, (1, 0, 0, 0), (-1, 0, 0, 0)), (0, 1, 1, 0))
        self.assertEqual(parted_prices(TABLE, (-1, 0, 0, 0), (1, 0, 0, 0)), (1, 0, 0, 1))
        # Here all costs of a lot are equal either way.
        self.assertIsNone(parted_prices(SCALE, (2, 3, 4), (-2, -3, -4)))


class ConventionsTest(unittest.TestCase):
    """Point [2], and the interface, for costs.py."""

    def test_names_and_arguments(self):
        told = {
            "cost": ["prices", "heap"], "cheapest": ["scale", "prices", "sums"], "lowering_book": ["scale", "prices"],
            "lowers": ["scale", "prices", "book"], "stuck": ["scale", "prices", "book"],
            "way_down": ["scale", "prices", "book", "heap"], "parted_prices": ["scale", "one", "other"],
        }
        for name, words in told.items():
            function = getattr(costs, name)
            self.assertEqual(function.__module__, "barterheaps.costs")
            self.assertEqual(list(inspect.signature(function).parameters), words)

    def test_arguments_by_name(self):
        prices = (0, 1, 1)
        self.assertEqual(cost(heap=(1, 2, 3), prices=prices), 5)
        self.assertEqual(cheapest(sums=(6,), prices=prices, scale=SCALE), (3, 0, 0))
        self.assertEqual(lowering_book(prices=prices, scale=SCALE), lowering_book(SCALE, prices))
        self.assertIs(lowers(book=BOOK, prices=prices, scale=SCALE), True)
        self.assertEqual(stuck(book=(), prices=prices, scale=SCALE), (0, 0, 1))
        self.assertEqual(way_down(heap=(0, 0, 1), book=BOOK, prices=prices, scale=SCALE), (((0, -1),), (2, 0, 0)))
        self.assertEqual(parted_prices(other=prices, one=(0, 0, 0), scale=SCALE), (0, 0, 1))

    def test_kinds_of_what_is_returned(self):
        for scale in ROWS + SEVERAL:
            prices, heap = (-3,) * len(scale[0]), (2,) * len(scale[0])
            book = lowering_book(scale, prices)
            found = (book, way_down(scale, prices, book, heap), cheapest(scale, prices, sums_of(scale, heap)))
            for value in found:
                self.assertIs(type(value), tuple)
                self.assertTrue(is_plain(value))
            self.assertIs(type(cost(prices, heap)), int)
            self.assertIs(type(lowers(scale, prices, book)), bool)
            if book:
                self.assertIs(type(stuck(scale, prices, ())), tuple)
                self.assertTrue(is_plain(stuck(scale, prices, ())))


if __name__ == "__main__":
    unittest.main()
