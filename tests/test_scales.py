import copy
import unittest
from itertools import product

from barterheaps import scales
from barterheaps.errors import BarterError, TooMany
from barterheaps.scales import free, is_heap, lot, scale_error, sums_of
from values import (
    HALVES, KNOTTED, OTHERS, SCALES, SLACK_TRIANGLE, TABLE, TRIANGLE, TWIN_TRIANGLE, WIDE_TABLE,
    is_plain, slow_lot, slow_lots, slow_rank, slow_sums,
)


class ScaleErrorTest(unittest.TestCase):
    """Point [3]: scale_error."""

    def check(self, word, *values):
        for value in values:
            with self.subTest(value=value):
                self.assertEqual(scale_error(value), word)

    def test_scales(self):
        self.check(None, *SCALES)

    def test_all_single_rows(self):
        for kinds in range(1, 5):
            self.check(None, *[(row,) for row in product((1, 2, 5, 6), repeat=kinds)])

    def test_numbers_of_rows(self):
        self.check(None, *[((1, 1),) * many for many in range(2, 7)])
        self.check("scale", ((1, 1),) * 7, ())

    def test_scale(self):
        self.check("scale", *OTHERS)
        self.check("scale", [(1, 2)], [(1, 0), (0, 1)], {(1, 2): 1}, ((1,),) * 7, ((),) * 7, "((1,),)")

    def test_row(self):
        self.check("row", *[(item,) for item in OTHERS])
        self.check("row", *[((1,), item) for item in OTHERS])
        self.check("row", ((),), ((1,), ()), ([1, 2],), (1, 2, 3), ((1,) * 7,), ((1,) * 7, (1,) * 7))

    def test_length(self):
        self.check("length", ((1,) * 5,), ((1,) * 6,), ((1,), (1, 1)), ((1, 1), (1,)), ((1, 1), (1, 1), (1, 1, 1)))
        self.check(None, ((1,) * 4,))

    def test_weight(self):
        self.check("weight", ((7,),), ((1, 2, 3, 7),), ((-1,),), ((1, -1),), ((10 ** 39,),), ((-10 ** 39, 1),))
        self.check("weight", ((2, 1), (1, 1)), ((1, 1), (1, -1)), ((1, 0), (0, 6)))
        # True and False are no integers, also as weights.
        self.check("weight", ((True,),), ((False, 1),), ((1, 1), (1, False)), ((True, 0), (0, True)))
        for item in (None, True, False, "", "1", [], [1], {}, (), (1,), ((1,),)):
            self.check("weight", ((item,),), ((1, item),), ((item, 1), (1, 1)), ((1, 1), (1, item)))

    def test_kind(self):
        self.check("kind", ((0,),), ((0, 1),), ((1, 0, 3),), ((1, 2, 3, 0),), ((0, 0, 0, 0),))
        self.check("kind", ((0,), (0,)), ((1, 0), (1, 0)), ((0, 1, 1), (0, 1, 0), (0, 0, 0)))

    def test_free(self):
        self.check("free", ((1,) * 5, (1,) * 5), ((1,) * 6,) * 6, ((1,) * 6, (0, 1) * 3))
        self.check("free", ((1,) * 5 + (0,), (0,) * 5 + (1,)), ((1, 0) * 3, (0, 1) * 3, (1,) * 6))
        self.check("free", ((1, 1, 0, 0, 0, 0), (0, 0, 1, 1, 1, 1), (1,) * 6, (0,) * 6, (0, 0, 1, 1, 1, 1)))
        self.check(None, ((1,) * 4, (1,) * 4), ((1,) * 5, (0, 1, 0, 1, 0)), ((1,) * 6, (0, 1) * 3, (0, 1, 1) * 2))

    def test_first_word_of_several(self):
        self.check("scale", ([], 1, (7, 7)) * 3)
        self.check("row", ((1, 1), (7,), ()), ((0,) * 6, [1]), ((0,) * 6, (0,) * 7), ((7,) * 7,))
        self.check("length", ((7,) * 5,), ((0,) * 5,), ((1, 1), (2,)), ((None, 0), (0,)), ((True,) * 6,))
        self.check("weight", ((0, 7),), ((0, True),), ((0, 2), (0, 1)), ((1, 2) + (0,) * 4, (0,) * 6))
        self.check("kind", ((1, 1, 1, 1, 1, 0), (1, 1, 1, 1, 1, 0)), ((0,) * 6,) * 6)

    def test_values_are_not_changed(self):
        for value in ([[1, 2], (3, [4])], {"a": [1], (1,): {}}, ([1], {2: [3]}), ((1, [2]), (3, {4: 5}))):
            before = copy.deepcopy(value)
            scale_error(value)
            self.assertEqual(value, before)


class FreeTest(unittest.TestCase):
    """Point [3]: free."""

    def test_single_rows(self):
        for kinds in range(1, 5):
            self.assertEqual(free((tuple(range(2, kinds + 2)),)), kinds - 1)

    def test_tables(self):
        self.assertEqual(free(TABLE), 1)
        self.assertEqual(free(WIDE_TABLE), 2)
        self.assertEqual(free(TRIANGLE), 0)
        self.assertEqual(free(SLACK_TRIANGLE), 3)

    def test_dependent_rows(self):
        self.assertEqual(free(((1, 1, 1, 1), (1, 1, 1, 1))), 3)
        self.assertEqual(free(((1, 1, 0), (0, 0, 1), (1, 1, 1))), 1)
        self.assertEqual(free(((1, 1), (0, 0))), 1)

    def test_rational_multiples(self):
        self.assertEqual(free(TRIANGLE + ((1, 1, 1),)), 0)
        self.assertEqual(free(HALVES), 6 - slow_rank(HALVES))
        thirds = ((0, 1, 1, 1), (1, 0, 1, 1), (1, 1, 0, 1), (1, 1, 1, 0), (1, 1, 1, 1))
        self.assertEqual(free(thirds), 0)

    def test_all_small_scales(self):
        for many, kinds in ((2, 3), (2, 4), (3, 3), (4, 2), (6, 1)):
            for rows in product(product((0, 1), repeat=kinds), repeat=many):
                self.assertEqual(free(rows), kinds - slow_rank(rows), rows)


class IsHeapTest(unittest.TestCase):
    """Point [3]: is_heap."""

    def test_heaps(self):
        for value in ((0, 0, 0), (40, 40, 40), (0, 40, 1), (1, 2, 3)):
            self.assertIs(is_heap(((2, 3, 4),), value), True)
        self.assertIs(is_heap(TABLE, (0, 1, 2, 40)), True)
        self.assertIs(is_heap(((5,),), (40,)), True)

    def test_counts_out_of_range(self):
        for count in (41, -1, 10 ** 39, -10 ** 39):
            for value in ((count, 0, 0), (0, 0, count), (count,) * 3):
                self.assertIs(is_heap(((2, 3, 4),), value), False)

    def test_too_few_and_too_many_counts(self):
        for value in ((), (1,), (1, 1), (1, 1, 1, 1)):
            self.assertIs(is_heap(((2, 3, 4),), value), False)
        self.assertIs(is_heap(TABLE, (1, 1, 1)), False)

    def test_counts_that_are_no_integers(self):
        for count in (True, False, None, "", "1", [], [1], {}, (), (1,)):
            for value in ((count, 0, 0), (0, 0, count)):
                self.assertIs(is_heap(((2, 3, 4),), value), False)

    def test_other_values(self):
        for value in OTHERS + ([1, 1, 1], [0, 0, 0], "111", {0: 1, 1: 1, 2: 1}, ((1, 1, 1),)):
            self.assertIs(is_heap(((2, 3, 4),), value), False)


class SumsOfTest(unittest.TestCase):
    """Point [3]: sums_of."""

    def test_one_row(self):
        self.assertEqual(sums_of(((2, 3, 4),), (1, 0, 1)), (6,))
        self.assertEqual(sums_of(((6, 6, 6, 6),), (40, 40, 40, 40)), (960,))

    def test_rows_in_order(self):
        self.assertEqual(sums_of(TABLE, (1, 2, 3, 4)), (3, 7, 4, 6))
        self.assertEqual(sums_of(TABLE[::-1], (1, 2, 3, 4)), (6, 4, 7, 3))
        self.assertEqual(sums_of(TABLE, (0, 0, 0, 0)), (0, 0, 0, 0))

    def test_all_scales(self):
        for scale in SCALES:
            heap = tuple(range(len(scale[0])))
            self.assertEqual(sums_of(scale, heap), slow_sums(scale, heap))


class LotTest(unittest.TestCase):
    """Point [3]: lot."""

    def check_many(self, scale, sums, many):
        """Checks a lot by its properties alone."""
        heaps = lot(scale, sums)
        self.assertEqual(len(heaps), many)
        self.assertEqual(list(heaps), sorted(set(heaps)))
        for heap in heaps:
            self.assertEqual(slow_sums(scale, heap), sums)
            self.assertGreaterEqual(min(heap), 0)
        return heaps

    def check_too_many(self, scale, sums):
        with self.subTest(scale=scale, sums=sums), self.assertRaises(TooMany):
            lot(scale, sums)

    def test_example(self):
        self.assertEqual(lot(((2, 3, 4),), (6,)), ((0, 2, 0), (1, 0, 1), (3, 0, 0)))
        self.assertEqual(lot(((2, 3, 4),), (4,)), ((0, 0, 1), (2, 0, 0)))
        self.assertEqual(lot(TABLE, (1, 1, 1, 1)), ((0, 1, 1, 0), (1, 0, 0, 1)))

    def test_all_sums_of_one_row(self):
        for kinds, most in ((1, 30), (2, 30), (3, 16)):
            for row in product((1, 2, 3, 4, 5, 6), repeat=kinds):
                lots = slow_lots((row,), most)
                for told in range(most + 1):
                    self.assertEqual(lot((row,), (told,)), tuple(lots.get((told,), ())), (row, told))

    def test_all_sums_of_four_kinds(self):
        for row in ((2, 3, 4, 5), (6, 4, 4, 2), (5, 6, 5, 6), (6, 1, 3, 4), (3, 3, 6, 6)):
            lots = slow_lots((row,), 14)
            for told in range(15):
                self.assertEqual(lot((row,), (told,)), tuple(lots.get((told,), ())), (row, told))

    def test_all_sums_of_several_rows(self):
        for scale in SCALES:
            if 2 <= len(scale) <= 4:
                most = 3 if len(scale) > 2 else 4
                lots = slow_lots(scale, most)
                for sums in product(range(most + 1), repeat=len(scale)):
                    self.assertEqual(lot(scale, sums), tuple(lots.get(sums, ())), (scale, sums))

    def test_all_scales_of_two_rows(self):
        for scale in product(product((0, 1), repeat=4), repeat=2):
            if scale_error(scale) is None:
                lots = slow_lots(scale, 3)
                for sums in product(range(4), repeat=2):
                    self.assertEqual(lot(scale, sums), tuple(lots.get(sums, ())), (scale, sums))

    def test_rows_whose_difference_has_a_kind_twice(self):
        for scale in KNOTTED:
            heaps = product((0, 1, 3), repeat=len(scale[0]))
            for sums in {slow_sums(scale, heap) for heap in heaps}:
                if max(sums) <= 6:
                    self.assertEqual(lot(scale, sums), slow_lot(scale, sums), (scale, sums))

    def test_lots_of_told_heaps(self):
        for scale in SCALES:
            for heap in product((0, 2), repeat=len(scale[0])):
                heaps = lot(scale, slow_sums(scale, heap))
                self.assertIn(heap, heaps)
                self.assertEqual(list(heaps), sorted(set(heaps)))

    def test_heap_of_nothing(self):
        for scale in SCALES:
            self.assertEqual(lot(scale, (0,) * len(scale)), ((0,) * len(scale[0]),))

    def test_sums_below_zero(self):
        for scale in SCALES:
            for told in (-1, -2, -6, -3000, -10 ** 39, -10 ** 400):
                self.assertEqual(lot(scale, (told,) * len(scale)), ())
        self.assertEqual(lot(TABLE, (3, -1, 1, 1)), ())
        self.assertEqual(lot(TABLE, (10000, -10 ** 50, 0, 10000 - 10 ** 50)), ())

    def test_contradicting_sums(self):
        self.assertEqual(lot(((1, 1), (1, 1)), (2, 3)), ())
        self.assertEqual(lot(((1, 1, 1, 1), (1, 1, 1, 1)), (10000, 9999)), ())
        self.assertEqual(lot(TABLE, (5, 5, 5, 6)), ())
        self.assertEqual(lot(TABLE, (10000, 10000, 10000, 9999)), ())
        self.assertEqual(lot(((0, 0), (1, 1)), (1, 1)), ())
        self.assertEqual(lot(TRIANGLE + ((1, 1, 1),), (2, 2, 2, 4)), ())

    def test_great_sums_without_a_heap(self):
        self.assertEqual(lot(((6, 6, 6, 6),), (9999,)), ())
        self.assertEqual(lot(((6, 4, 2, 2),), (9999,)), ())
        self.assertEqual(lot(((3, 6, 3, 6),), (10000,)), ())
        self.assertEqual(lot(TRIANGLE, (9999, 10000, 10000)), ())
        self.assertEqual(lot(TRIANGLE, (10000, 1, 2)), ())
        self.assertEqual(lot(TWIN_TRIANGLE, (9999, 9999, 9999)), ())
        less = ((1, 1, 1, 1, 1, 0), (1, 1, 1, 1, 0, 0), (0, 0, 0, 0, 1, 1))
        self.assertEqual(lot(less, (9999, 10000, 10000)), ())
        self.assertEqual(lot(((1, 1, 1, 1, 1, 0), (1, 1, 1, 0, 0, 1), (0, 0, 0, 1, 1, 0)), (10000, 3, 9996)), ())

    def test_great_sums_with_few_heaps(self):
        self.assertEqual(lot(((5,),), (10000,)), ((2000,),))
        self.assertEqual(lot(((5,),), (9999,)), ())
        self.assertEqual(lot(TRIANGLE, (10000, 9000, 8000)), ((4500, 5500, 3500),))
        self.check_many(SLACK_TRIANGLE, (10000, 3, 0), 4)
        self.check_many(SLACK_TRIANGLE, (0, 10000, 3), 4)
        self.check_many(((1, 1, 1, 1, 1, 0), (1, 1, 1, 1, 0, 0), (0, 0, 0, 0, 1, 1)), (10000, 0, 10000), 1)
        self.check_many(WIDE_TABLE, (10000, 5, 10000, 3, 2), 12)

    def test_just_the_most_heaps(self):
        self.check_many(((1, 1),), (2999,), 3000)
        self.check_many(((6, 6),), (6 * 1666,), 1667)
        self.check_many(((2, 4),), (11996,), 3000)
        self.check_many(TABLE, (2999,) * 4, 3000)
        self.check_many(TABLE, (2999, 10000, 10000, 2999), 3000)
        self.check_many(((1, 1, 0), (0, 0, 1)), (2999, 10000), 3000)
        # 60 times 50 heaps.
        self.check_many(((1, 1, 0, 0), (0, 0, 1, 1)), (59, 49), 3000)

    def test_one_heap_too_many(self):
        self.check_too_many(((1, 1),), (3000,))
        self.check_too_many(TABLE, (3000,) * 4)
        self.check_too_many(TABLE, (3000, 10000, 10000, 3000))
        # 77 times 39 heaps, which are 3003.
        self.check_too_many(((1, 1, 0, 0), (0, 0, 1, 1)), (76, 38))
        self.check_too_many(((1, 1, 0, 0), (0, 0, 1, 1)), (3000, 0))

    def test_very_many_heaps(self):
        for row in ((1, 1), (1, 1, 1, 1), (6, 5, 4, 3), (5, 6, 5, 6), (6, 4, 2, 2), (1, 2)):
            self.check_too_many((row,), (10000,))
        for scale in (TABLE, WIDE_TABLE, TWIN_TRIANGLE, SLACK_TRIANGLE, ((1, 1), (1, 1))):
            self.check_too_many(scale, slow_sums(scale, (3300,) * len(scale[0])))


class ConventionsTest(unittest.TestCase):
    """Point [2], and the interface, for scales.py."""

    def test_arguments_by_name(self):
        scale = ((2, 3, 4),)
        self.assertIsNone(scale_error(value=scale))
        self.assertEqual(free(scale=scale), 2)
        self.assertIs(is_heap(scale=scale, value=(1, 1, 1)), True)
        self.assertIs(is_heap(value=(1, 1), scale=scale), False)
        self.assertEqual(sums_of(heap=(1, 0, 1), scale=scale), (6,))
        self.assertEqual(lot(sums=(4,), scale=scale), ((0, 0, 1), (2, 0, 0)))

    def test_kinds_of_what_is_returned(self):
        for scale in SCALES:
            self.assertIs(type(free(scale)), int)
            sums = sums_of(scale, (2,) * len(scale[0]))
            for value in (sums, lot(scale, sums), lot(scale, (0,) * len(scale)), lot(scale, (-1,) * len(scale))):
                self.assertIs(type(value), tuple)
                self.assertTrue(is_plain(value))
            for heap in lot(scale, sums):
                self.assertEqual({type(count) for count in heap}, {int})
        self.assertIs(type(scale_error(5)), str)

    def test_the_same_answer_again(self):
        first = lot(((2, 3, 4),), (12,))
        self.assertRaises(TooMany, lot, ((1, 1),), (3000,))
        self.assertEqual(lot(((2, 3, 4),), (12,)), first)

    def test_too_many_is_a_barter_error(self):
        with self.assertRaises(BarterError):
            lot(((1, 1, 1),), (10000,))

    def test_names_are_defined_in_the_file(self):
        for name in ("scale_error", "free", "is_heap", "sums_of", "lot"):
            self.assertEqual(getattr(scales, name).__module__, "barterheaps.scales")


if __name__ == "__main__":
    unittest.main()
