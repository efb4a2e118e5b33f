import inspect
import unittest
from fractions import Fraction
from math import gcd
from random import Random

from barterheaps import counted
from barterheaps.counted import even_heap, heap_at, many_heaps, number_of
from barterheaps.errors import NoHeap
from barterheaps.scales import lot
from values import OTHERS, SINGLE_SCALES, bounded_lots, is_plain, slow_sums

SCALE = ((2, 3, 4),)
FAR = 10 ** 30
SOME = (
    ((1,),), ((6,),), ((1, 1),), ((6, 4),), ((6, 5),), SCALE, ((1, 2, 3),), ((6, 6, 6),), ((4, 6, 6),), ((1, 1, 1, 1),),
    ((6, 5, 4, 3),), ((4, 5, 6, 6),), ((2, 4, 6, 2),), ((3, 6, 3, 3),), ((6, 1, 5, 1),), ((5, 5, 6, 4),),
)


def slow_many(row, most):
    """How many heaps there are of each sum from 0 to most, kind by kind."""
    found = [1] + [0] * most
    for weight in row:
        for told in range(weight, most + 1):
            found[told] += found[told - weight]
    return found


def far_many(row, told):
    """How many heaps there are of a great sum, by the polynomial through those of lesser sums.

    Of the sums that leave one rest by 60 the numbers are those of a polynomial of
    a degree below the number of kinds.
    """
    few = slow_many(row, 60 * 5)
    places = [told % 60 + 60 * step for step in range(len(row))]
    total = Fraction(0)
    for place in places:
        share = Fraction(few[place])
        for other in places:
            if other != place:
                share *= Fraction(told - other, place - other)
        total += share
    return int(total) if total.denominator == 1 else None


def fits(row, told):
    """Whether some heap of these kinds has this sum; beyond 60 all that the common divisor allows."""
    if told < 0 or not row:
        return told == 0
    if told > 60:
        return told % gcd(*row) == 0
    return slow_many(row, 60)[told] > 0


def first_heap(row, told):
    """The first of the heaps with this sum, one kind after another with the least count that fits."""
    heap = ()
    for kind, weight in enumerate(row):
        rest = row[kind + 1:]
        if rest:
            count = next(count for count in range(61) if fits(rest, told - weight * count))
        else:
            count = told // weight
        heap += (count,)
        told -= weight * count
    return heap


def next_heap(row, heap):
    """The heap behind this one in the order of its lot, None behind the last one."""
    for kind in reversed(range(len(row) - 1)):
        left = slow_sums((row[kind:],), heap[kind:])[0]
        for count in range(heap[kind] + 1, min(heap[kind] + 61, left // row[kind]) + 1):
            if fits(row[kind + 1:], left - row[kind] * count):
                return heap[:kind] + (count,) + first_heap(row[kind + 1:], left - row[kind] * count)
    return None


class ManyHeapsTest(unittest.TestCase):
    """Point [16]: many_heaps."""

    def test_told(self):
        self.assertEqual([many_heaps(SCALE, (told,)) for told in range(13)], [1, 0, 1, 1, 2, 1, 3, 2, 4, 3, 5, 4, 7])
        self.assertEqual(many_heaps(((1, 1),), (FAR,)), FAR + 1)
        self.assertEqual(many_heaps(((6, 4),), (FAR,)), 83333333333333333333333333333 + 1)
        self.assertEqual(many_heaps(((6, 4),), (FAR - 1,)), 0)
        self.assertEqual(many_heaps(((1, 1, 1),), (FAR,)), (FAR + 2) * (FAR + 1) // 2)
        self.assertEqual(many_heaps(((1, 1, 1, 1),), (FAR,)), (FAR + 3) * (FAR + 2) * (FAR + 1) // 6)
        self.assertEqual(many_heaps(((6, 6, 6, 6),), (FAR - 4,)), (FAR // 6 + 3) * (FAR // 6 + 2) * (FAR // 6 + 1) // 6)

    def test_below_zero_and_zero(self):
        for scale in SOME:
            self.assertEqual(many_heaps(scale, (0,)), 1)
            for told in (-1, -2, -60, -61, -12345, -10 ** 39, -10 ** 100):
                self.assertEqual(many_heaps(scale, (told,)), 0)

    def test_one_kind(self):
        for weight in range(1, 7):
            for told in list(range(20)) + [FAR - step for step in range(20)]:
                self.assertEqual(many_heaps(((weight,),), (told,)), int(told % weight == 0))

    def test_small_sums_of_all_scales(self):
        for scale in SINGLE_SCALES:
            told = slow_many(scale[0], 70)
            found = [many_heaps(scale, (one,)) for one in range(71)[::1 if len(scale[0]) < 4 else 7]]
            self.assertEqual(found, told[::1 if len(scale[0]) < 4 else 7], scale)

    def test_as_lot(self):
        for scale in SOME:
            for told in range(-3, 24):
                self.assertEqual(many_heaps(scale, (told,)), len(lot(scale, (told,))))

    def test_great_sums(self):
        chance = Random(1)
        for scale in SINGLE_SCALES[::7] + SOME:
            for told in (FAR, FAR - 1, FAR - 59, 10 ** 6 + 7, chance.randint(0, FAR)):
                self.assertEqual(many_heaps(scale, (told,)), far_many(scale[0], told), (scale, told))


class NumbersTest(unittest.TestCase):
    """Point [16]: heap_at and number_of."""

    def test_told(self):
        heaps = ((0, 0, 3), (0, 4, 0), (1, 2, 1), (2, 0, 2), (3, 2, 0), (4, 0, 1), (6, 0, 0))
        self.assertEqual(lot(SCALE, (12,)), heaps)
        for number, heap in enumerate(heaps):
            self.assertEqual(heap_at(SCALE, (12,), number), heap)
            self.assertEqual(number_of(SCALE, heap), number)
        self.assertEqual(heap_at(((1, 1),), (FAR,), FAR), (FAR, 0))
        self.assertEqual(heap_at(((1, 1),), (FAR,), 12345), (12345, FAR - 12345))
        self.assertEqual(number_of(((1, 1),), (FAR, FAR)), FAR)

    def test_heap_of_nothing(self):
        for scale in SOME:
            nothing = (0,) * len(scale[0])
            self.assertEqual(heap_at(scale, (0,), 0), nothing)
            self.assertEqual(number_of(scale, nothing), 0)
            self.assertEqual(even_heap(scale, (0,), 10 ** 50), nothing)

    def test_all_heaps_of_small_sums(self):
        for scale in SINGLE_SCALES[:258] + SINGLE_SCALES[258::17] + SOME:
            for sums, heaps in bounded_lots(scale, 21 if len(scale[0]) < 4 else 13).items():
                for number, heap in enumerate(heaps):
                    self.assertEqual(heap_at(scale, sums, number), heap)
                    self.assertEqual(number_of(scale, heap), number)
                self.assert_no_heap(scale, sums, len(heaps))

    def assert_no_heap(self, scale, sums, *values):
        for value in values:
            with self.subTest(value=value), self.assertRaises(NoHeap):
                heap_at(scale, sums, value)

    def test_great_sums(self):
        chance = Random(2)
        for scale in SINGLE_SCALES[::29] + SOME:
            row = scale[0]
            for told in (FAR, FAR - 1, 999999, 3 * 10 ** 15 + 1, chance.randint(0, FAR)):
                many = many_heaps(scale, (told,))
                if many:
                    numbers = [0, many - 1, many // 2] + [chance.randint(0, many - 1) for _ in range(3)]
                    for number in numbers:
                        self.check_heap(scale, told, number, many)
                    self.assertEqual(heap_at(scale, (told,), 0), first_heap(row, told))
                    self.assertIsNone(next_heap(row, heap_at(scale, (told,), many - 1)))
                self.assert_no_heap(scale, (told,), many, many + 1, -1)

    def check_heap(self, scale, told, number, many):
        """Checks the heap with this number, and that the one with the next number comes right behind it."""
        heap = heap_at(scale, (told,), number)
        self.assertTrue(is_plain(heap))
        self.assertGreaterEqual(min(heap), 0)
        self.assertEqual(sum(weight * count for weight, count in zip(scale[0], heap)), told)
        self.assertEqual(number_of(scale, heap), number)
        if number + 1 < many:
            self.assertEqual(heap_at(scale, (told,), number + 1), next_heap(scale[0], heap))

    def test_heaps_with_great_counts(self):
        chance = Random(3)
        for scale in SOME:
            for heap in [(FAR,) * len(scale[0])] + [tuple(chance.randint(0, FAR) for _ in scale[0]) for _ in range(4)]:
                sums = (sum(weight * count for weight, count in zip(scale[0], heap)),)
                number = number_of(scale, heap)
                self.assertLess(number, many_heaps(scale, sums))
                self.assertEqual(heap_at(scale, sums, number), heap)
                behind = next_heap(scale[0], heap)
                if behind is not None:
                    self.assertEqual(number_of(scale, behind), number + 1)

    def test_number_of_the_last_heap(self):
        for scale in SOME:
            if len(scale[0]) > 1:
                heap = (FAR,) + (0,) * (len(scale[0]) - 1)
                self.assertEqual(number_of(scale, heap), many_heaps(scale, (scale[0][0] * FAR,)) - 1)

    def test_no_heap(self):
        bad = [value for value in OTHERS if value not in (0, 1) or value is True or value is False]
        bad += [7, 8, -1, -7, 10 ** 39, -10 ** 39, 10 ** 200, (0,), ((0,),), "0", [0], {0: 0}, (0, 4, 0)]
        self.assert_no_heap(SCALE, (12,), *bad)
        self.assert_no_heap(((1, 1),), (FAR,), FAR + 1, -1, True, False, None, 10 ** 100)
        self.assertEqual(heap_at(SCALE, (12,), 0), (0, 0, 3))
        self.assertEqual(heap_at(SCALE, (12,), 6), (6, 0, 0))

    def test_no_heap_in_an_empty_lot(self):
        for scale, sums in ((SCALE, (1,)), (SCALE, (-1,)), (SCALE, (-10 ** 60,)), (((6, 4),), (FAR - 1,)), (((5,),), (4,))):
            self.assert_no_heap(scale, sums, 0, 1, True, None, "", ())


class EvenHeapTest(unittest.TestCase):
    """Point [16]: even_heap."""

    def test_told(self):
        heaps = lot(SCALE, (12,))
        for value in list(range(30)) + [7 * 10 ** 39 + 3, 10 ** 100]:
            self.assertEqual(even_heap(SCALE, (12,), value), heaps[value % 7])

    def test_each_heap_equally_often(self):
        for scale in SOME:
            heaps = lot(scale, (24,))
            if heaps:
                found = [even_heap(scale, (24,), value) for value in range(3 * len(heaps))]
                self.assertEqual(found, list(heaps) * 3)

    def test_great_sums(self):
        for scale in (SCALE, ((6, 5, 4, 3),), ((1, 1),)):
            many = many_heaps(scale, (FAR,))
            for number in (0, 1, many - 1, many // 3):
                told = heap_at(scale, (FAR,), number)
                for times in (0, 1, 10 ** 90):
                    self.assertEqual(even_heap(scale, (FAR,), number + times * many), told)

    def test_no_heap(self):
        bad = [value for value in OTHERS if value not in (0, 1, 10 ** 39) or value is True or value is False]
        for value in bad + [-1, -10 ** 39, (0,), "0", [0], {0: 0}, (0, 4, 0), ((),)]:
            for scale, sums in ((SCALE, (12,)), (((1, 1),), (FAR,))):
                with self.subTest(value=value), self.assertRaises(NoHeap):
                    even_heap(scale, sums, value)

    def test_empty_lot(self):
        for scale, sums in ((SCALE, (1,)), (SCALE, (-1,)), (SCALE, (-10 ** 60,)), (((6, 4),), (FAR - 1,)), (((5,),), (4,))):
            for value in (0, 1, 10 ** 39, None, True, -1, "0", ()):
                with self.assertRaises(NoHeap):
                    even_heap(scale, sums, value)


class ConventionsTest(unittest.TestCase):
    """Point [2], and the interface, for counted.py."""

    def test_names_and_arguments(self):
        told = {
            "many_heaps": ["scale", "sums"], "heap_at": ["scale", "sums", "value"], "number_of": ["scale", "heap"],
            "even_heap": ["scale", "sums", "value"],
        }
        for name, words in told.items():
            function = getattr(counted, name)
            self.assertEqual(function.__module__, "barterheaps.counted")
            self.assertEqual(list(inspect.signature(function).parameters), words)

    def test_arguments_by_name(self):
        self.assertEqual(many_heaps(sums=(12,), scale=SCALE), 7)
        self.assertEqual(heap_at(value=1, sums=(12,), scale=SCALE), (0, 4, 0))
        self.assertEqual(number_of(heap=(0, 4, 0), scale=SCALE), 1)
        self.assertEqual(even_heap(value=8, sums=(12,), scale=SCALE), (0, 4, 0))

    def test_kinds_of_what_is_returned(self):
        for value in (many_heaps(SCALE, (12,)), many_heaps(SCALE, (1,)), number_of(SCALE, (1, 2, 3))):
            self.assertIs(type(value), int)
        for value in (heap_at(SCALE, (12,), 3), even_heap(SCALE, (FAR,), 10 ** 100)):
            self.assertIs(type(value), tuple)
            self.assertEqual([type(count) for count in value], [int] * 3)


if __name__ == "__main__":
    unittest.main()
