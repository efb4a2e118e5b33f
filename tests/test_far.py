import inspect
import unittest
from itertools import permutations
from random import Random

from barterheaps import far as module
from barterheaps.errors import Short, Unlike
from barterheaps.exchanges import least_exchanges
from barterheaps.far import far_heap, far_walk
from values import (
    KNOTTED, SCALES, SINGLE_SCALES, SLACK_TRIANGLE, TABLE, TRIANGLE, WIDE_TABLE,
    bounded_lots, is_plain, random_scales, slow_least_exchanges,
)

SCALE = ((2, 3, 4),)
FIRST = ((2, 0, 0), (0, 0, 1))
SECOND = ((1, 0, 1), (0, 2, 0))
FAR = 10 ** 30


def far_sums(scale, heap):
    """The sums of a heap of great counts."""
    return tuple(sum(weight * count for weight, count in zip(row, heap)) for row in scale)


def far_pairs(scale, many, seed):
    """Pairs of heaps of great counts with the same sums: a heap, and where many random exchanges lead it."""
    chance = Random(seed)
    least = least_exchanges(scale)
    found = []
    for _ in range(many):
        size = chance.choice((3, 40, 10 ** 9, FAR))
        one = [chance.choice((0, size, chance.randint(0, size))) for _ in scale[0]]
        other = list(one)
        for _ in range(12 if least else 0):
            take, put = chance.choice(least)[::chance.choice((-1, 1))]
            most = min(count // less for count, less in zip(other, take) if less)
            times = chance.choice((most, most // 2, chance.randint(0, most)))
            behind = [count + times * (more - less) for count, less, more in zip(other, take, put)]
            if max(behind) <= FAR:
                other = behind
        found.append((tuple(one), tuple(other)))
    return found


class FarWalkTest(unittest.TestCase):
    """Point [17]: far_walk."""

    def check(self, scale, one, other):
        """Checks the walk by what the document tells of it, and gives it."""
        steps = far_walk(scale, one, other)
        self.assertIs(type(steps), tuple)
        self.assertTrue(is_plain(steps))
        self.assertEqual(list(steps), sorted(set(steps)))
        least = self.least_of(scale)
        seen = set()
        takes, puts = [0] * len(one), [0] * len(one)
        for (take, put), times in steps:
            self.assertTrue((take, put) in least or (put, take) in least)
            self.assertIs(type(times), int)
            self.assertGreaterEqual(times, 1)
            self.assertNotIn((take, put), seen)
            self.assertNotIn((put, take), seen)
            seen.add((take, put))
            takes = [total + times * count for total, count in zip(takes, take)]
            puts = [total + times * count for total, count in zip(puts, put)]
        self.assertEqual(takes, [max(0, less - more) for less, more in zip(one, other)], (scale, one, other))
        self.assertEqual(puts, [max(0, more - less) for less, more in zip(one, other)], (scale, one, other))
        self.assertEqual(far_heap(one, steps), other)
        return steps

    def least_of(self, scale):
        """The least exchanges, searched for but once."""
        if not hasattr(self, "found"):
            self.found = {}
        if scale not in self.found:
            self.found[scale] = set(slow_least_exchanges(scale))
        return self.found[scale]

    def test_told(self):
        self.assertEqual(far_walk(SCALE, (2, 0, 0), (0, 0, 1)), ((FIRST, 1),))
        self.assertEqual(far_walk(SCALE, (0, 0, 1), (2, 0, 0)), ((FIRST[::-1], 1),))
        self.assertEqual(far_walk(SCALE, (7, 9, 1), (3, 9, 3)), ((FIRST, 2),))
        self.assertEqual(far_walk(((1, 1),), (FAR, 0), (0, FAR)), ((((1, 0), (0, 1)), FAR),))
        self.assertEqual(far_walk(((6, 4),), (FAR, 0), (0, FAR // 2 * 3)), ((((2, 0), (0, 3)), FAR // 2),))
        self.assertEqual(far_walk(TABLE, (FAR, 1, 0, FAR), (1, FAR, FAR - 1, 1)), ((((1, 0, 0, 1), (0, 1, 1, 0)), FAR - 1),))

    def test_the_same_heap(self):
        for scale in SCALES + KNOTTED:
            for heap in ((0,) * len(scale[0]), (FAR,) * len(scale[0]), tuple(range(len(scale[0])))):
                self.assertEqual(far_walk(scale, heap, heap), ())

    def test_one_exchange_apart(self):
        for scale in SCALES + KNOTTED:
            for take, put in least_exchanges(scale):
                for more in (0, 1, FAR - 60):
                    one = tuple(count + more for count in take)
                    other = tuple(count + more for count in put)
                    self.assertEqual(self.check(scale, one, other), (((take, put), 1),))
                    self.assertEqual(self.check(scale, other, one), (((put, take), 1),))

    def test_all_pairs_of_small_lots(self):
        for scale, most in ((SCALE, 14), (((1, 2, 3),), 8), (((6, 5, 4, 3),), 20), (TABLE, 3), (SLACK_TRIANGLE, 2)):
            for heaps in bounded_lots(scale, most).values():
                for one, other in permutations(heaps[:9], 2):
                    self.check(scale, one, other)

    def test_great_heaps_of_one_row(self):
        for scale in SINGLE_SCALES[:258:3] + SINGLE_SCALES[258::53] + (((6, 5, 6, 5),), ((6, 5, 4, 3),)):
            for one, other in far_pairs(scale, 4, 1):
                self.check(scale, one, other)
                self.check(scale, other, one)

    def test_great_heaps_of_several_rows(self):
        for scale in SCALES + KNOTTED + tuple(random_scales(40, 2)):
            for one, other in far_pairs(scale, 4, 3):
                self.check(scale, one, other)
                self.check(scale, other, one)

    def test_from_all_of_one_kind_to_all_of_another(self):
        for scale in SINGLE_SCALES[6:258]:
            row = scale[0]
            nothing = (0,) * (len(row) - 2)
            one = (FAR // 60 * row[1],) + nothing + (0,)
            other = (0,) + nothing + (FAR // 60 * row[1] * row[0] // row[-1],)
            if far_sums(scale, one) == far_sums(scale, other):
                self.assertEqual(len(self.check(scale, one, other)), 1)

    def test_unlike(self):
        for scale, one, other in (
            (SCALE, (1, 0, 0), (0, 1, 0)), (SCALE, (FAR, FAR, FAR), (FAR, FAR, FAR - 1)), (SCALE, (0, 0, 0), (0, 0, 1)),
            (TABLE, (1, 0, 0, 1), (1, 1, 0, 0)), (TRIANGLE, (FAR, 0, 0), (0, FAR, 0)), (((5,),), (FAR,), (0,)),
            (((1, 1, 0), (1, 1, 1), (1, 0, 1)), (1, 0, 0), (0, 1, 0)),
        ):
            for pair in ((one, other), (other, one)):
                with self.assertRaises(Unlike):
                    far_walk(scale, *pair)


class FarHeapTest(unittest.TestCase):
    """Point [17]: far_heap."""

    def check_short(self, kind, heap, steps):
        with self.subTest(heap=heap, steps=steps), self.assertRaises(Short) as caught:
            far_heap(heap, steps)
        self.assertEqual(caught.exception.kind, kind)
        self.assertIs(type(caught.exception.kind), int)

    def test_told(self):
        self.assertEqual(far_heap((7, 9, 1), ((FIRST, 2),)), (3, 9, 3))
        self.assertEqual(far_heap((3, 0, 0), ((FIRST, 1), (SECOND, 1))), (0, 2, 0))
        self.assertEqual(far_heap((FAR, 0), ((((1, 0), (0, 1)), FAR),)), (0, FAR))
        self.assertEqual(far_heap((FAR, FAR), ((((1, 0), (0, 1)), FAR),)), (0, 2 * FAR))
        self.assertEqual(far_heap((1, 2, 3), ()), (1, 2, 3))

    def test_one_after_another(self):
        self.check_short(2, (3, 0, 0), ((SECOND, 1), (FIRST, 1)))
        self.assertEqual(far_heap((2, 0, 0), ((FIRST, 1), (FIRST[::-1], 1), (FIRST, 1))), (0, 0, 1))

    def test_no_times(self):
        for heap in ((0, 0, 0), (1, 2, 3)):
            self.assertEqual(far_heap(heap, ((FIRST, 0),)), heap)
            self.assertEqual(far_heap(heap, ((FIRST, 0), (SECOND, 0)) * 15), heap)
        self.check_short(0, (0, 0, 0), ((SECOND, 0), (FIRST, 1)))

    def test_first_kind_that_is_short(self):
        pair = ((1, 2, 0, 3), (0, 0, 6, 0))
        for heap, times, kind in (
            ((0, 0, 0, 0), 1, 0), ((5, 9, 0, 15), 5, 1), ((5, 10, 0, 14), 5, 3), ((4, 9, 9, 14), 5, 0),
            ((FAR, FAR, 0, FAR), FAR, 1), ((FAR, 2 * FAR, 0, FAR), FAR, 3),
        ):
            self.check_short(kind, heap, ((pair, times),))
            self.check_short(kind, heap, ((pair, 0), (pair, times)))
        self.assertEqual(far_heap((5, 10, 0, 15), ((pair, 5),)), (0, 0, 30, 0))

    def test_asked_of_the_whole_pair_at_once(self):
        # Step by step this one could go any number of times.
        pair = ((1, 1), (1, 1))
        self.assertEqual(far_heap((1, 1), ((pair, 1),)), (1, 1))
        self.check_short(0, (1, 1), ((pair, 2),))
        pair = ((2, 1), (1, 2))
        self.assertEqual(far_heap((4, 2), ((pair, 2),)), (2, 4))
        self.check_short(0, (3, 3), ((pair, 2),))
        self.assertEqual(far_heap((3, 3), ((pair, 1), (pair, 1))), (1, 5))
        self.check_short(1, (4, 1), ((pair, 2),))
        self.assertEqual(far_heap((4, 1), ((pair, 1), (pair, 1))), (2, 3))
        # Each pair by itself can go, but not both in one.
        book = ((((1, 1, 0), (0, 1, 1)), 3),)
        self.check_short(1, (3, 1, 0), book)
        self.assertEqual(far_heap((3, 3, 0), book), (0, 3, 3))

    def test_far_walks_in_any_order(self):
        chance = Random(4)
        for scale in SCALES + KNOTTED + (((6, 5, 6, 5),), ((3, 5, 6, 1),)):
            for one, other in far_pairs(scale, 4, 5):
                steps = far_walk(scale, one, other)
                orders = list(permutations(steps))[:24] if len(steps) < 6 else []
                orders += [tuple(chance.sample(steps, len(steps))) for _ in range(4)] + [steps[::-1]]
                for order in orders:
                    self.assertEqual(far_heap(one, order), other)

    def test_a_part_of_the_times(self):
        for one, other in far_pairs(WIDE_TABLE, 20, 6):
            steps = far_walk(WIDE_TABLE, one, other)
            halves = tuple((pair, times // 2) for pair, times in steps)
            rests = tuple((pair, times - times // 2) for pair, times in steps)
            self.assertEqual(far_heap(far_heap(one, halves), rests), other)

    def test_one_thing_too_few(self):
        for scale in (SCALE, TABLE, WIDE_TABLE):
            for take, put in least_exchanges(scale):
                for times in (1, 7, FAR):
                    heap = [times * count for count in take]
                    self.assertEqual(far_heap(tuple(heap), (((take, put), times),)), tuple(times * c for c in put))
                    for kind, count in enumerate(take):
                        if count:
                            fewer = tuple(heap[:kind] + [heap[kind] - 1] + heap[kind + 1:])
                            self.check_short(kind, fewer, (((take, put), times),))

    def test_most_pairs(self):
        self.assertEqual(far_heap((FAR, 0), ((((1, 0), (0, 1)), 10 ** 28),) * 30), (FAR - 30 * 10 ** 28, 30 * 10 ** 28))

    def test_exchanges_that_are_not_least(self):
        self.assertEqual(far_heap((80, 0, 0), ((((40, 0, 0), (0, 0, 20)), 2),)), (0, 0, 40))
        self.check_short(0, (79, 0, 0), ((((40, 0, 0), (0, 0, 20)), 2),))


class ConventionsTest(unittest.TestCase):
    """Point [2], and the interface, for far.py."""

    def test_names_and_arguments(self):
        for name, words in {"far_walk": ["scale", "one", "other"], "far_heap": ["heap", "steps"]}.items():
            function = getattr(module, name)
            self.assertEqual(function.__module__, "barterheaps.far")
            self.assertEqual(list(inspect.signature(function).parameters), words)

    def test_arguments_by_name(self):
        self.assertEqual(far_walk(other=(0, 0, 1), one=(2, 0, 0), scale=SCALE), ((FIRST, 1),))
        self.assertEqual(far_heap(steps=((FIRST, 2),), heap=(5, 0, 0)), (1, 0, 2))

    def test_kinds_of_what_is_returned(self):
        for value in (far_walk(SCALE, (FAR, 0, 0), (0, 0, FAR // 2)), far_heap((FAR, 0, 0), ((FIRST, 3),))):
            self.assertIs(type(value), tuple)
            self.assertTrue(is_plain(value))


if __name__ == "__main__":
    unittest.main()
