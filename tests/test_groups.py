import inspect
import unittest
from itertools import product

from barterheaps import groups as module
from barterheaps.errors import TooMany
from barterheaps.exchanges import least_exchanges
from barterheaps.groups import critical, groups
from values import (
    KNOTTED, SCALES, SINGLE_SCALES, SLACK_TRIANGLE, TABLE, TRIANGLE, WIDE_TABLE,
    is_plain, random_scales, slow_groups, slow_lot, slow_lots, slow_sums,
)

SCALE = ((2, 3, 4),)


class GroupsTest(unittest.TestCase):
    """Point [5]: groups."""

    def test_told(self):
        self.assertEqual(groups(SCALE, (4,)), (((0, 0, 1),), ((2, 0, 0),)))
        self.assertEqual(groups(SCALE, (6,)), (((0, 2, 0),), ((1, 0, 1), (3, 0, 0))))
        self.assertEqual(groups(TABLE, (1, 1, 1, 1)), (((0, 1, 1, 0),), ((1, 0, 0, 1),)))

    def test_one_group(self):
        self.assertEqual(groups(SCALE, (2,)), (((1, 0, 0),),))
        self.assertEqual(groups(SCALE, (7,)), (((0, 1, 1), (2, 1, 0)),))
        self.assertEqual(groups(SCALE, (8,)), (((0, 0, 2), (1, 2, 0), (2, 0, 1), (4, 0, 0)),))

    def test_tied_by_a_chain_only(self):
        # The first and the last heap of these groups have no kind in common.
        self.assertEqual(groups(((1, 1, 2),), (2,)), (((0, 0, 1),), ((0, 2, 0), (1, 1, 0), (2, 0, 0))))
        self.assertEqual(groups(((1, 1),), (3,)), (((0, 3), (1, 2), (2, 1), (3, 0)),))
        self.assertEqual(groups(((1, 1, 1),), (2,))[0][::5], ((0, 0, 2), (2, 0, 0)))

    def test_many_groups(self):
        self.assertEqual(groups(((1, 1, 1, 1),), (1,)), (
            ((0, 0, 0, 1),), ((0, 0, 1, 0),), ((0, 1, 0, 0),), ((1, 0, 0, 0),),
        ))
        self.assertEqual(groups(((3, 6, 6, 1),), (6,)), (
            ((0, 0, 0, 6), (1, 0, 0, 3), (2, 0, 0, 0)), ((0, 0, 1, 0),), ((0, 1, 0, 0),),
        ))

    def test_groups_in_the_order_of_their_first_heaps(self):
        # The heaps of the first group stand on both sides of those of the second.
        found = groups(((2, 3, 3, 2),), (6,))
        self.assertEqual(found, (
            ((0, 0, 0, 3), (1, 0, 0, 2), (2, 0, 0, 1), (3, 0, 0, 0)), ((0, 0, 2, 0), (0, 1, 1, 0), (0, 2, 0, 0)),
        ))

    def test_empty_lot(self):
        self.assertEqual(groups(SCALE, (1,)), ())
        self.assertEqual(groups(SCALE, (-5,)), ())
        self.assertEqual(groups(SCALE, (-10 ** 39,)), ())
        self.assertEqual(groups(TABLE, (1, 1, 1, 2)), ())
        self.assertEqual(groups(((6, 4),), (9999,)), ())

    def test_heap_of_nothing(self):
        for scale in SCALES:
            self.assertEqual(groups(scale, (0,) * len(scale)), (((0,) * len(scale[0]),),))

    def test_all_sums_of_one_row(self):
        for row in product((1, 2, 3, 5, 6), repeat=3):
            for sums, heaps in slow_lots((row,), 12).items():
                self.assertEqual(groups((row,), sums), slow_groups(heaps), (row, sums))

    def test_all_sums_of_four_kinds(self):
        for row in ((2, 3, 4, 5), (6, 4, 4, 2), (5, 6, 5, 6), (6, 6, 4, 4), (3, 2, 6, 5)):
            for sums, heaps in slow_lots((row,), 12).items():
                self.assertEqual(groups((row,), sums), slow_groups(heaps), (row, sums))

    def test_all_sums_of_several_rows(self):
        for scale in SCALES + KNOTTED:
            if len(scale) > 1:
                for sums, heaps in slow_lots(scale, 2).items():
                    self.assertEqual(groups(scale, sums), slow_groups(heaps), (scale, sums))

    def test_greatest_lots(self):
        self.assertEqual(len(groups(((1, 1),), (2999,))[0]), 3000)
        self.assertEqual(len(groups(TABLE, (2999,) * 4)), 1)
        with self.assertRaises(TooMany):
            groups(((1, 1),), (3000,))
        with self.assertRaises(TooMany):
            groups(TABLE, (3000,) * 4)
        with self.assertRaises(TooMany):
            groups(((6, 5, 4, 3),), (10000,))


class CriticalTest(unittest.TestCase):
    """Point [5]: critical; point [1] (c)."""

    def test_example(self):
        self.assertEqual(critical(SCALE), (((4,), 2), ((6,), 2)))

    def test_told(self):
        self.assertEqual(critical(((1, 1, 1, 1),)), (((1,), 4),))
        self.assertEqual(critical(((6, 6, 6),)), (((6,), 3),))
        self.assertEqual(critical(((6, 5),)), (((30,), 2),))
        self.assertEqual(critical(((1, 2, 2, 3),)), (((2,), 3), ((3,), 2)))
        self.assertEqual(critical(((6, 5, 4, 3),)), (((6,), 2), ((8,), 2), ((9,), 2), ((10,), 2)))
        self.assertEqual(critical(TABLE), (((1, 1, 1, 1), 2),))
        self.assertEqual(critical(WIDE_TABLE), (((1, 1, 0, 1, 1), 2), ((1, 1, 1, 0, 1), 2), ((1, 1, 1, 1, 0), 2)))

    def test_none(self):
        for scale in (((3,),), TRIANGLE, ((1, 0), (0, 1)), ((1,), (1,)), ((1,), (0,))):
            self.assertEqual(critical(scale), ())

    def test_many(self):
        for scale in (((2, 2, 2, 2),), ((1, 1, 1, 1), (0, 0, 0, 0)), ((1, 1, 1, 1), (1, 1, 1, 1))):
            self.assertEqual([many for _, many in critical(scale)], [4])

    def check_up_to(self, scale, most):
        """Checks that up to the sums all critical ones are told, and no others."""
        told = []
        for sums, heaps in sorted(slow_lots(scale, most).items()):
            many = len(slow_groups(heaps))
            if many > 1:
                told.append((sums, many))
        self.assertEqual([pair for pair in critical(scale) if max(pair[0]) <= most], told, scale)

    def test_complete_for_one_row(self):
        for kinds, most in ((1, 40), (2, 31), (3, 15)):
            for row in product(range(1, 7), repeat=kinds):
                self.check_up_to((row,), most)
        for row in ((3, 4, 5, 6), (6, 5, 5, 6), (1, 5, 6, 4), (2, 3, 3, 6), (4, 6, 4, 6)):
            self.check_up_to((row,), 14)

    def test_complete_for_great_sums(self):
        # Just the sums that are told have several groups.
        for row in ((6, 5), (5, 6, 6), (4, 5, 6), (3, 5, 6), (5, 5, 6, 6), (6, 5, 4, 3)):
            told = [((sums,), len(slow_groups(slow_lot((row,), (sums,))))) for sums in range(1, 41)]
            self.assertEqual(critical((row,)), tuple(pair for pair in told if pair[1] > 1))

    def test_complete_for_several_rows(self):
        for scale in SCALES + KNOTTED:
            if len(scale) > 1:
                self.check_up_to(scale, 2 if len(scale[0]) > 4 else 4)

    def test_sums_are_those_of_least_exchanges(self):
        for scale in SINGLE_SCALES[:300] + SCALES + KNOTTED + tuple(random_scales(100, 7)):
            sums = {slow_sums(scale, take) for take, _ in least_exchanges(scale)}
            told = tuple((one, len(slow_groups(slow_lot(scale, one)))) for one in sorted(sums))
            self.assertEqual(critical(scale), tuple(pair for pair in told if pair[1] > 1), scale)


class ConventionsTest(unittest.TestCase):
    """Point [2], and the interface, for groups.py."""

    def test_names_and_arguments(self):
        for name, words in {"groups": ["scale", "sums"], "critical": ["scale"]}.items():
            function = getattr(module, name)
            self.assertEqual(function.__module__, "barterheaps.groups")
            self.assertEqual(list(inspect.signature(function).parameters), words)

    def test_arguments_by_name(self):
        self.assertEqual(groups(sums=(4,), scale=SCALE), (((0, 0, 1),), ((2, 0, 0),)))
        self.assertEqual(critical(scale=SCALE), (((4,), 2), ((6,), 2)))

    def test_kinds_of_what_is_returned(self):
        for scale in SCALES + KNOTTED:
            for value in (critical(scale), groups(scale, (1,) * len(scale)), groups(scale, (-1,) * len(scale))):
                self.assertIs(type(value), tuple)
                self.assertTrue(is_plain(value))
            for sums, many in critical(scale):
                self.assertEqual({type(number) for number in sums + (many,)}, {int})

    def test_the_same_answer_again(self):
        self.assertEqual(critical(SLACK_TRIANGLE), critical(SLACK_TRIANGLE))
        self.assertEqual(groups(SCALE, (12,)), groups(SCALE, (12,)))


if __name__ == "__main__":
    unittest.main()
