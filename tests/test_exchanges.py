import copy
import inspect
import unittest
from itertools import permutations, product

from barterheaps import exchanges
from barterheaps.errors import Short
from barterheaps.exchanges import back, bare, exchange_error, forth, is_within, least_exchanges
from values import (
    KNOTTED, OTHERS, SCALES, SINGLE_SCALES, SLACK_TRIANGLE, TABLE, TRIANGLE, WIDE_TABLE,
    is_plain, random_scales, slow_changes, slow_least_exchanges, slow_lots, slow_sums,
)

SCALE = ((2, 3, 4),)


class ExchangeErrorTest(unittest.TestCase):
    """Point [4]: exchange_error."""

    def check(self, word, *values, scale=SCALE):
        for value in values:
            with self.subTest(value=value):
                self.assertEqual(exchange_error(scale, value), word)

    def test_exchanges(self):
        self.check(None, ((2, 0, 0), (0, 0, 1)), ((0, 0, 1), (2, 0, 0)), ((1, 0, 1), (0, 2, 0)))
        self.check(None, ((1, 0, 0, 1), (0, 1, 1, 0)), ((3, 1, 1, 40), (2, 2, 2, 39)), scale=TABLE)
        self.check(None, ((40, 0), (0, 20)), ((2, 39), (4, 38)), scale=((1, 2),))

    def test_exchanges_that_are_not_bare(self):
        self.check(None, ((2, 5, 0), (0, 5, 1)), ((40, 40, 38), (38, 40, 39)), ((3, 0, 0), (1, 0, 1)))

    def test_all_pairs_of_a_lot(self):
        for heaps in slow_lots(SCALE, 12).values():
            self.check(None, *permutations(heaps, 2))

    def test_exchange(self):
        self.check("exchange", *OTHERS)
        self.check("exchange", (), ((2, 0, 0),), ((2, 0, 0), (0, 0, 1), (0, 0, 1)), ((2, 0, 0),) * 3, (1,))
        self.check("exchange", [(2, 0, 0), (0, 0, 1)], {(2, 0, 0): 1, (0, 0, 1): 2}, {0: (2, 0, 0), 1: (0, 0, 1)}, "ab")

    def test_heap(self):
        good = (0, 0, 1)
        bad = OTHERS + (
            [2, 0, 0], {0: 2, 1: 0, 2: 0}, "200", (), (2,), (2, 0), (2, 0, 0, 0), (0, 0, 1, 0), ((2, 0, 0),),
            (41, 0, 0), (0, 0, 41), (41, 41, 41), (-1, 2, 0), (-2, 0, 2), (10 ** 39, 0, 0), (-10 ** 39, 0, 0),
            (2, 0, False), (2, False, 0), (0, 0, True), (2, None, 0), (2, "0", 0), (2, [], 0), (2, 0, {}), (2, 0, ()),
        )
        for item in bad:
            self.check("heap", (item, good), (good, item), (item, item))

    def test_counts_of_just_too_many(self):
        self.check(None, ((40, 0, 0), (38, 0, 1)))
        self.check("heap", ((41, 0, 0), (39, 0, 1)), ((39, 0, 1), (41, 0, 0)))

    def test_same(self):
        self.check("same", ((0, 0, 0), (0, 0, 0)), ((1, 2, 3), (1, 2, 3)), ((40, 40, 40), (40, 40, 40)))
        self.check("same", ((0,), (0,)), ((3,), (3,)), scale=((5,),))

    def test_sums(self):
        self.check("sums", ((1, 0, 0), (0, 1, 0)), ((0, 0, 0), (0, 0, 1)), ((2, 0, 1), (0, 0, 1)))
        self.check("sums", ((40, 0, 0), (0, 0, 40)), ((40, 40, 40), (40, 39, 40)))
        self.check("sums", ((1, 0, 0, 0), (0, 1, 0, 0)), ((1, 0, 0, 1), (0, 1, 1, 1)), scale=TABLE)
        # All rows but the last have like sums here.
        self.check("sums", ((1, 0, 0), (0, 1, 0)), scale=((1, 1, 0), (1, 1, 1), (1, 0, 1)))

    def test_first_word_of_several(self):
        self.check("exchange", [(41, 0, 0), (41, 0, 0)], ((41,), (41,), (41,)), ((1, 0, 0), (0, 1, 0), (0, 0, 1)))
        self.check("heap", ((41, 0, 0), (41, 0, 0)), ((-1, 0, 0), (-1, 0, 0)), ([], []), (None, None), ((), ()))
        self.check("heap", ((41, 0, 0), (0, 0, 0)), ((True, 0, 0), (1, 0, 0)), ((1, 0, 0), (0, 1)), ((0, 0, 0), (0, 0)))

    def test_values_are_not_changed(self):
        for value in ([[1], [2]], ([1, 2, 3], {4: [5]}), {(1,): [2]}, ((1, [2], 3), (1, 2, 3))):
            before = copy.deepcopy(value)
            exchange_error(SCALE, value)
            self.assertEqual(value, before)


class StepTest(unittest.TestCase):
    """Point [4]: forth and back."""

    def check_short(self, kind, step, exchange, heap):
        with self.subTest(heap=heap), self.assertRaises(Short) as caught:
            step(exchange, heap)
        self.assertEqual(caught.exception.kind, kind)
        self.assertIs(type(caught.exception.kind), int)

    def test_heap_behind(self):
        exchange = ((2, 0, 0), (0, 0, 1))
        self.assertEqual(forth(exchange, (2, 0, 0)), (0, 0, 1))
        self.assertEqual(forth(exchange, (5, 1, 2)), (3, 1, 3))
        self.assertEqual(back(exchange, (0, 0, 1)), (2, 0, 0))
        self.assertEqual(back(exchange, (5, 1, 2)), (7, 1, 1))

    def test_what_is_in_both_must_be_there(self):
        exchange = ((2, 3, 0), (0, 3, 1))
        self.assertEqual(forth(exchange, (2, 3, 0)), (0, 3, 1))
        self.assertEqual(back(exchange, (0, 3, 1)), (2, 3, 0))
        self.check_short(1, forth, exchange, (2, 2, 0))
        self.check_short(1, back, exchange, (0, 2, 1))

    def test_back_undoes_forth(self):
        for scale in SCALES:
            for exchange in least_exchanges(scale):
                for heap in product((0, 1, 4), repeat=len(scale[0])):
                    self.check_both_ways(exchange, heap)

    def check_both_ways(self, exchange, heap):
        take, put = exchange
        if all(count >= less for count, less in zip(heap, take)):
            behind = forth(exchange, heap)
            self.assertEqual(behind, tuple(a - b + c for a, b, c in zip(heap, take, put)))
            self.assertEqual(back(exchange, behind), heap)
            self.assertEqual(back((put, take), heap), behind)
        else:
            first = [count < less for count, less in zip(heap, take)].index(True)
            self.check_short(first, forth, exchange, heap)
            self.check_short(first, back, (put, take), heap)

    def test_first_kind_of_which_there_is_too_little(self):
        exchange = ((1, 2, 0, 3), (0, 0, 6, 0))
        heaps = (((0, 0, 0, 0), 0), ((1, 1, 9, 0), 1), ((9, 2, 9, 2), 3), ((0, 2, 0, 3), 0), ((1, 0, 0, 0), 1))
        for heap, kind in heaps:
            self.check_short(kind, forth, exchange, heap)
            self.check_short(kind, back, exchange[::-1], heap)
        self.check_short(2, back, exchange, (40, 40, 5, 40))
        self.check_short(2, forth, exchange[::-1], (0, 0, 5, 0))

    def test_greatest_counts(self):
        full = (40, 40, 40)
        self.assertEqual(forth(((2, 0, 0), (0, 0, 1)), full), (38, 40, 41))
        self.assertEqual(back(((2, 0, 0), (0, 0, 1)), full), (42, 40, 39))
        self.assertEqual(forth(((40, 40, 38), (38, 40, 39)), full), (38, 40, 41))
        self.check_short(1, forth, ((40, 40, 38), (38, 40, 39)), (40, 39, 37))
        self.assertEqual(forth(((40, 0, 0), (0, 0, 20)), full), (0, 40, 60))
        self.check_short(0, forth, ((40, 0, 0), (0, 0, 20)), (39, 40, 40))
        self.check_short(2, back, ((0, 0, 1), (2, 0, 0))[::-1], (40, 40, 0))

    def test_nothing_is_changed(self):
        exchange, heap = ((2, 0, 0), (0, 0, 1)), (3, 3, 3)
        forth(exchange, heap)
        back(exchange, heap)
        self.assertEqual((exchange, heap), (((2, 0, 0), (0, 0, 1)), (3, 3, 3)))


class BareTest(unittest.TestCase):
    """Point [4]: bare."""

    def test_lesser_counts_are_taken_off(self):
        self.assertEqual(bare(((3, 0, 0), (1, 0, 1))), ((2, 0, 0), (0, 0, 1)))
        self.assertEqual(bare(((5, 2, 1), (3, 2, 2))), ((2, 0, 0), (0, 0, 1)))
        self.assertEqual(bare(((1, 4, 1), (2, 2, 2))), ((0, 2, 0), (1, 0, 1)))
        self.assertEqual(bare(((40, 40, 38), (38, 40, 39))), ((2, 0, 0), (0, 0, 1)))

    def test_bare_ones_stay(self):
        for scale in SCALES:
            for exchange in least_exchanges(scale):
                self.assertEqual(bare(exchange), exchange)
                self.assertEqual(bare(exchange[::-1]), exchange[::-1])

    def test_the_same_whatever_is_put_to_both_sides(self):
        for heaps in slow_lots(((1, 2, 3),), 6).values():
            for take, put in permutations(heaps, 2):
                told = bare((take, put))
                for more in product((0, 1, 7), repeat=3):
                    both = tuple(tuple(a + b for a, b in zip(heap, more)) for heap in (take, put))
                    self.assertEqual(bare(both), told)

    def test_properties(self):
        for heaps in slow_lots(((1, 2, 3),), 7).values():
            for take, put in permutations(heaps, 2):
                less, more = bare((take, put))
                for kind in range(3):
                    self.assertEqual(less[kind] - more[kind], take[kind] - put[kind])
                    self.assertEqual(min(less[kind], more[kind]), 0)


class WithinTest(unittest.TestCase):
    """Point [4]: is_within."""

    def check(self, told, one, other):
        with self.subTest(one=one, other=other):
            self.assertIs(is_within(one, other), told)
            self.assertIs(is_within(one[::-1], other), told)
            self.assertIs(is_within(one, other[::-1]), told)
            self.assertIs(is_within(one[::-1], other[::-1]), told)

    def test_within(self):
        one = ((2, 0, 0), (0, 0, 1))
        self.check(True, one, one)
        self.check(True, one, ((2, 0, 0), (0, 0, 1)))
        self.check(True, one, ((4, 0, 0), (0, 0, 2)))
        self.check(True, one, ((3, 1, 0), (1, 1, 1)))
        self.check(True, ((3, 1, 0), (1, 1, 1)), ((4, 2, 0), (2, 2, 1)))

    def test_not_within(self):
        one = ((2, 0, 0), (0, 0, 1))
        self.check(False, ((4, 0, 0), (0, 0, 2)), one)
        self.check(False, one, ((1, 0, 1), (0, 2, 0)))
        self.check(False, one, ((3, 0, 0), (0, 2, 0)))
        self.check(False, ((2, 1, 0), (0, 1, 1)), ((4, 0, 0), (0, 0, 2)))

    def test_both_within_one_side_only(self):
        self.check(False, ((1, 0, 0), (0, 1, 0)), ((2, 2, 0), (0, 0, 4)))
        self.check(True, ((1, 0, 0), (0, 1, 0)), ((2, 2, 0), (0, 1, 3)))
        self.check(True, ((1, 0, 0), (0, 1, 0)), ((2, 2, 0), (1, 0, 3)))

    def test_kind_by_kind(self):
        for one in product(product((0, 1, 2), repeat=2), repeat=2):
            for other in product(product((0, 1, 2), repeat=2), repeat=2):
                if sum(one[0]) == sum(one[1]) and sum(other[0]) == sum(other[1]):
                    self.check(self.slow(one, other) or self.slow(one[::-1], other), one, other)

    def slow(self, one, other):
        return not [1 for a, b in zip(one[0] + one[1], other[0] + other[1]) if a > b]


class LeastExchangesTest(unittest.TestCase):
    """Point [4]: least_exchanges; point [1] (c)."""

    def check(self, scale):
        self.assertEqual(least_exchanges(scale), slow_least_exchanges(scale), scale)

    def test_told(self):
        self.assertEqual(least_exchanges(SCALE), (
            ((0, 4, 0), (0, 0, 3)), ((1, 0, 1), (0, 2, 0)), ((1, 2, 0), (0, 0, 2)),
            ((2, 0, 0), (0, 0, 1)), ((3, 0, 0), (0, 2, 0)),
        ))
        self.assertEqual(least_exchanges(((6, 4),)), (((2, 0), (0, 3)),))
        self.assertEqual(least_exchanges(((1, 1, 1),)), (
            ((0, 1, 0), (0, 0, 1)), ((1, 0, 0), (0, 0, 1)), ((1, 0, 0), (0, 1, 0)),
        ))
        self.assertEqual(least_exchanges(TABLE), (((1, 0, 0, 1), (0, 1, 1, 0)),))
        self.assertEqual(len(least_exchanges(WIDE_TABLE)), 3)

    def test_none(self):
        for scale in (((3,),), TRIANGLE, ((1, 0), (0, 1)), ((1,), (1,)), ((1,), (0,))):
            self.assertEqual(least_exchanges(scale), ())

    def test_all_single_rows(self):
        self.assertEqual(len(SINGLE_SCALES), 6 + 36 + 216 + 1296)
        for scale in SINGLE_SCALES:
            self.check(scale)

    def test_several_rows(self):
        for scale in SCALES + KNOTTED:
            self.check(scale)

    def test_all_pairs_of_rows(self):
        for kinds in range(1, 5):
            for scale in product(product((0, 1), repeat=kinds), repeat=2):
                if all(any(column) for column in zip(*scale)):
                    self.check(scale)

    def test_random_rows(self):
        for scale in random_scales(300, 4):
            self.check(scale)

    def test_dependent_and_empty_rows_change_nothing(self):
        for scale in (TABLE, ((1, 1, 1, 0), (0, 1, 1, 1)), SLACK_TRIANGLE):
            more = scale + ((0,) * len(scale[0]), scale[0])
            self.assertEqual(least_exchanges(more), least_exchanges(scale))

    def test_form(self):
        for scale in SCALES + KNOTTED:
            found = least_exchanges(scale)
            self.assertEqual(list(found), sorted(set(found)))
            for take, put in found:
                self.assertIsNone(exchange_error(scale, (take, put)))
                self.assertGreater(take, put)
                self.assertEqual([min(pair) for pair in zip(take, put)], [0] * len(take))

    def test_no_least_one_is_within_another(self):
        for scale in SCALES + KNOTTED:
            for one, other in permutations(least_exchanges(scale), 2):
                self.assertFalse(is_within(one, other))

    def test_each_exchange_holds_a_least_one(self):
        for scale in (SCALE, ((1, 2, 3),), ((6, 5, 4, 3),), TABLE, SLACK_TRIANGLE, WIDE_TABLE):
            least = least_exchanges(scale)
            for heaps in slow_lots(scale, 3 if len(scale) > 1 else 12).values():
                for pair in permutations(heaps, 2):
                    self.assertTrue(any(is_within(one, pair) for one in least), pair)

    def test_changes_within_great_counts(self):
        least = least_exchanges(SCALE)
        for row in slow_changes(SCALE, 12):
            pair = tuple(max(number, 0) for number in row), tuple(max(-number, 0) for number in row)
            self.assertTrue(any(is_within(one, pair) for one in least), pair)


class ConventionsTest(unittest.TestCase):
    """Point [2], and the interface, for exchanges.py."""

    def test_names_and_arguments(self):
        told = {
            "exchange_error": ["scale", "value"], "forth": ["exchange", "heap"], "back": ["exchange", "heap"],
            "bare": ["exchange"], "is_within": ["one", "other"], "least_exchanges": ["scale"],
        }
        for name, words in told.items():
            function = getattr(exchanges, name)
            self.assertEqual(function.__module__, "barterheaps.exchanges")
            self.assertEqual(list(inspect.signature(function).parameters), words)

    def test_arguments_by_name(self):
        exchange = ((2, 0, 0), (0, 0, 1))
        self.assertIsNone(exchange_error(value=exchange, scale=SCALE))
        self.assertEqual(exchange_error(scale=SCALE, value=()), "exchange")
        self.assertEqual(forth(heap=(2, 1, 0), exchange=exchange), (0, 1, 1))
        self.assertEqual(back(heap=(0, 1, 1), exchange=exchange), (2, 1, 0))
        self.assertEqual(bare(exchange=((3, 0, 0), (1, 0, 1))), exchange)
        self.assertIs(is_within(other=((4, 0, 0), (0, 0, 2)), one=exchange), True)
        self.assertEqual(least_exchanges(scale=TABLE), (((1, 0, 0, 1), (0, 1, 1, 0)),))

    def test_kinds_of_what_is_returned(self):
        exchange = ((3, 0, 0), (1, 0, 1))
        self.assertIs(type(exchange_error(SCALE, ())), str)
        for value in (forth(exchange, (3, 3, 3)), back(exchange, (3, 3, 3)), bare(exchange)):
            self.assertIs(type(value), tuple)
            self.assertTrue(is_plain(value))
        for scale in SCALES:
            found = least_exchanges(scale)
            self.assertIs(type(found), tuple)
            self.assertTrue(is_plain(found))
            for take, put in found:
                self.assertEqual({type(count) for count in take + put}, {int})
                self.assertEqual(slow_sums(scale, take), slow_sums(scale, put))

    def test_the_same_answer_again(self):
        self.assertEqual(least_exchanges(SCALE), least_exchanges(SCALE))


if __name__ == "__main__":
    unittest.main()
