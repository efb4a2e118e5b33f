import copy
import inspect
import unittest
from itertools import product
from random import Random

from barterheaps import desks
from barterheaps.books import apart, joins, walk
from barterheaps.costs import lowers, stuck
from barterheaps.desks import Desk
from barterheaps.errors import (
    BadBook, BadExchange, BadPrices, BadScale, BarterError, Full, NoExchange, NothingToUndo, TooMany, Twice, Unlike,
)
from barterheaps.exchanges import least_exchanges
from values import KNOTTED, OTHERS, SCALES, TABLE, WIDE_TABLE, is_plain

SCALE = ((2, 3, 4),)
FIRST = ((2, 0, 0), (0, 0, 1))
SECOND = ((1, 0, 1), (0, 2, 0))
THIRD = ((3, 0, 0), (0, 2, 0))
BOOK = (FIRST, SECOND)
FULL = tuple((take, (take[0] - 2, take[1], take[2] + 1)) for take in product(range(2, 5), range(5), range(2)))

BAD_EXCHANGES = (
    ("exchange", OTHERS + ((), (FIRST,), FIRST + ((0, 0, 1),), list(FIRST), {FIRST: 1})),
    ("heap", (((2, 0, 0), [0, 0, 1]), ((41, 0, 0), (39, 0, 1)), ((True, 0, 1), (1, 0, 1)), ((2, 0), (0, 1)))),
    ("same", (((1, 2, 3), (1, 2, 3)), ((0, 0, 0), (0, 0, 0)))),
    ("sums", (((1, 0, 0), (0, 0, 1)), ((0, 0, 0), (0, 1, 0)))),
)


class DeskTest(unittest.TestCase):

    def check_state(self, desk, scale, book, deeds):
        """Checks all that a desk tells of itself."""
        self.assertEqual(desk.scale, scale)
        self.assertEqual(desk.book, book)
        self.assertEqual(desk.deeds, deeds)
        self.assertEqual(len(desk), len(book))
        self.assertEqual(list(desk), list(book))
        self.assertTrue(is_plain((desk.scale, desk.book, desk.deeds)))
        self.assertIs(type(desk.deeds), tuple)

    def check_raises(self, kind, attributes, desk, deed, *given):
        """Checks that the deed raises the error, and that nothing comes of it."""
        before = desk.scale, desk.book, desk.deeds
        with self.subTest(deed=deed, given=given), self.assertRaises(kind) as caught:
            getattr(desk, deed)(*given)
        for name, value in attributes.items():
            self.assertEqual(getattr(caught.exception, name), value)
            self.assertIs(type(getattr(caught.exception, name)), type(value))
        self.check_state(desk, *before)


class MadeTest(DeskTest):
    """Point [9]: how a desk is made."""

    def test_made(self):
        self.check_state(Desk(SCALE), SCALE, (), ())
        self.check_state(Desk(SCALE, ()), SCALE, (), ())
        self.check_state(Desk(SCALE, BOOK), SCALE, BOOK, ())
        self.check_state(Desk(SCALE, FULL), SCALE, FULL, ())
        self.check_state(Desk(book=BOOK, scale=SCALE), SCALE, BOOK, ())
        self.check_state(Desk(scale=SCALE), SCALE, (), ())
        for scale in SCALES + KNOTTED:
            self.check_state(Desk(scale, least_exchanges(scale)), scale, least_exchanges(scale), ())

    def check_bad_scale(self, word, *values):
        for value in values:
            for given in ((value,), (value, BOOK), (value, None), (value, (None,))):
                with self.subTest(given=given), self.assertRaises(BadScale) as caught:
                    Desk(*given)
                self.assertEqual(caught.exception.word, word)

    def test_bad_scale(self):
        self.check_bad_scale("scale", *OTHERS)
        self.check_bad_scale("scale", (), [(2, 3, 4)], ((1,),) * 7)
        self.check_bad_scale("row", ((),), (1, 2), ([2, 3, 4],), ((1,) * 7,))
        self.check_bad_scale("length", ((1,) * 5,), ((1,), (1, 1)))
        self.check_bad_scale("weight", ((7,),), ((2, 1), (1, 1)), ((True, 1),))
        self.check_bad_scale("kind", ((0, 1),), ((0, 1), (0, 1)))
        self.check_bad_scale("free", ((1,) * 5, (1,) * 5))

    def check_bad_book(self, index, word, *values):
        for value in values:
            with self.subTest(value=value), self.assertRaises(BadBook) as caught:
                Desk(SCALE, value)
            self.assertEqual((caught.exception.index, caught.exception.word), (index, word))

    def test_bad_book(self):
        self.check_bad_book(-1, "book", *OTHERS)
        self.check_bad_book(-1, "book", list(BOOK), FULL + (SECOND,), {FIRST: 1})
        for word, values in BAD_EXCHANGES:
            for value in values:
                self.check_bad_book(0, word, (value,), (value, FIRST))
                self.check_bad_book(2, word, BOOK + (value,))
        self.check_bad_book(1, "twice", (FIRST, FIRST), (FIRST, FIRST[::-1]))
        self.check_bad_book(2, "twice", BOOK + (FIRST,), (FIRST, SECOND, SECOND[::-1], None))

    def test_values_are_not_changed(self):
        for scale, book in (([1, [2]], [3]), (SCALE, [FIRST, [1]]), (SCALE, (FIRST, [SECOND]))):
            before = copy.deepcopy((scale, book))
            with self.assertRaises(BarterError):
                Desk(scale, book)
            self.assertEqual((scale, book), before)

    def test_scale_book_and_deeds_are_properties(self):
        for name in ("scale", "book", "deeds"):
            self.assertIsInstance(inspect.getattr_static(Desk, name), property)
            with self.assertRaises(AttributeError):
                setattr(Desk(SCALE), name, ())


class DeedsTest(DeskTest):
    """Point [9]: put, drop, turn and undo."""

    def test_put(self):
        desk = Desk(SCALE)
        self.assertEqual(desk.put(FIRST), 1)
        self.check_state(desk, SCALE, (FIRST,), (("put", FIRST),))
        self.assertEqual(desk.put(SECOND[::-1]), 2)
        self.check_state(desk, SCALE, (FIRST, SECOND[::-1]), (("put", FIRST), ("put", SECOND[::-1])))
        self.assertEqual(desk.put(((3, 0, 0), (1, 0, 1))), 3)
        self.assertEqual(desk.book, (FIRST, SECOND[::-1], ((3, 0, 0), (1, 0, 1))))

    def test_put_what_is_wrong(self):
        for book in ((), BOOK, FULL):
            desk = Desk(SCALE, book)
            for word, values in BAD_EXCHANGES:
                for value in values:
                    self.check_raises(BadExchange, {"word": word}, desk, "put", value)

    def test_put_twice(self):
        desk = Desk(SCALE, BOOK)
        for index, pair in enumerate(BOOK):
            self.check_raises(Twice, {"index": index}, desk, "put", pair)
            self.check_raises(Twice, {"index": index}, desk, "put", pair[::-1])
        full = Desk(SCALE, FULL)
        for index, pair in enumerate(FULL):
            self.check_raises(Twice, {"index": index}, full, "put", pair)
            self.check_raises(Twice, {"index": index}, full, "put", pair[::-1])

    def test_full(self):
        desk = Desk(SCALE, FULL)
        self.check_raises(Full, {}, desk, "put", SECOND)
        desk = Desk(SCALE, FULL[:29])
        self.assertEqual(desk.put(SECOND), 30)
        self.check_raises(Full, {}, desk, "put", THIRD)
        self.check_raises(Twice, {"index": 29}, desk, "put", SECOND[::-1])
        self.check_raises(BadExchange, {"word": "same"}, desk, "put", ((0, 0, 0), (0, 0, 0)))
        self.assertEqual(desk.drop(0), 29)
        self.assertEqual(desk.put(THIRD), 30)

    def test_drop(self):
        desk = Desk(SCALE, BOOK + (THIRD,))
        self.assertEqual(desk.drop(1), 2)
        self.check_state(desk, SCALE, (FIRST, THIRD), (("drop", 1, SECOND),))
        self.assertEqual(desk.drop(1), 1)
        self.assertEqual(desk.drop(0), 0)
        self.check_state(desk, SCALE, (), (("drop", 1, SECOND), ("drop", 1, THIRD), ("drop", 0, FIRST)))

    def test_turn(self):
        desk = Desk(SCALE, BOOK)
        self.assertEqual(desk.turn(1), 2)
        self.check_state(desk, SCALE, (FIRST, SECOND[::-1]), (("turn", 1),))
        self.assertEqual(desk.turn(1), 2)
        self.check_state(desk, SCALE, BOOK, (("turn", 1), ("turn", 1)))
        self.assertEqual(desk.turn(0), 2)
        self.check_state(desk, SCALE, (FIRST[::-1], SECOND), (("turn", 1), ("turn", 1), ("turn", 0)))
        self.check_raises(Twice, {"index": 0}, desk, "put", FIRST)

    def test_no_exchange(self):
        others = [value for value in OTHERS if value not in (0, 1) or value is True or value is False]
        for desk in (Desk(SCALE, BOOK), Desk(SCALE), Desk(SCALE, FULL)):
            for deed in ("drop", "turn"):
                for value in others + [len(desk), len(desk) + 1, -1, -len(desk) - 1, (0,), "0", [0], FIRST]:
                    self.check_raises(NoExchange, {}, desk, deed, value)
        for deed in ("drop", "turn"):
            self.check_raises(NoExchange, {}, Desk(SCALE), deed, 0)
            self.check_raises(NoExchange, {}, Desk(SCALE, BOOK), deed, True)
            self.check_raises(NoExchange, {}, Desk(SCALE, BOOK), deed, False)

    def test_undo(self):
        desk = Desk(SCALE, BOOK)
        desk.put(THIRD)
        desk.drop(0)
        desk.turn(1)
        self.check_state(desk, SCALE, (SECOND, THIRD[::-1]), (("put", THIRD), ("drop", 0, FIRST), ("turn", 1)))
        self.assertEqual(desk.undo(), 2)
        self.check_state(desk, SCALE, (SECOND, THIRD), (("put", THIRD), ("drop", 0, FIRST)))
        self.assertEqual(desk.undo(), 3)
        self.check_state(desk, SCALE, (FIRST, SECOND, THIRD), (("put", THIRD),))
        self.assertEqual(desk.undo(), 2)
        self.check_state(desk, SCALE, BOOK, ())
        self.check_raises(NothingToUndo, {}, desk, "undo")

    def test_nothing_to_undo(self):
        for desk in (Desk(SCALE), Desk(SCALE, BOOK), Desk(SCALE, FULL)):
            self.check_raises(NothingToUndo, {}, desk, "undo")
            self.check_raises(NothingToUndo, {}, desk, "undo")

    def test_deeds_behind_an_undo(self):
        desk = Desk(SCALE)
        desk.put(FIRST)
        desk.put(SECOND)
        desk.undo()
        self.assertEqual(desk.put(THIRD), 2)
        self.check_state(desk, SCALE, (FIRST, THIRD), (("put", FIRST), ("put", THIRD)))
        self.assertEqual([desk.undo(), desk.undo()], [1, 0])
        self.check_raises(NothingToUndo, {}, desk, "undo")

    def test_deeds_that_raised_are_not_undone(self):
        desk = Desk(SCALE, BOOK)
        desk.drop(0)
        for deed, given in (("put", None), ("put", SECOND), ("drop", 1), ("turn", -1)):
            with self.assertRaises(BarterError):
                getattr(desk, deed)(given)
        self.assertEqual(desk.undo(), 2)
        self.check_state(desk, SCALE, BOOK, ())

    def test_many_deeds_and_back_to_the_first_book(self):
        for seed, first in enumerate(((), BOOK, FULL, FULL[:29], FULL[3:9])):
            chance = Random(seed)
            desk = Desk(SCALE, first)
            past = [(first, ())]
            for _ in range(400):
                book, deeds = past[-1]
                if chance.random() < 0.3:
                    self.go_back(desk, past)
                    continue
                name, given, behind, deed = self.some_deed(chance, book)
                if behind is None:
                    with self.assertRaises(BarterError):
                        getattr(desk, name)(given)
                else:
                    self.assertEqual(getattr(desk, name)(given), len(behind))
                    past.append((behind, deeds + (deed,)))
                self.check_state(desk, SCALE, *past[-1])
            while len(past) > 1:
                self.go_back(desk, past)
            self.check_raises(NothingToUndo, {}, desk, "undo")
            self.check_state(desk, SCALE, first, ())

    def go_back(self, desk, past):
        """Takes a deed back, if there is one."""
        if len(past) > 1:
            past.pop()
            self.assertEqual(desk.undo(), len(past[-1][0]))
        self.check_state(desk, SCALE, *past[-1])

    def some_deed(self, chance, book):
        """A deed's name, its argument, the book behind it, None if it raises, and how it is told."""
        name = chance.choice(("put", "put", "drop", "turn"))
        if name == "put":
            pair = chance.choice(FULL + BOOK + (THIRD,))[::chance.choice((-1, 1))]
            fits = len(book) < 30 and pair not in book and pair[::-1] not in book
            return name, pair, book + (pair,) if fits else None, ("put", pair)
        index = chance.randint(-1, len(book))
        if not 0 <= index < len(book):
            return name, index, None, None
        rows = list(book)
        if name == "drop":
            return name, index, tuple(rows[:index] + rows[index + 1:]), ("drop", index, book[index])
        rows[index] = rows[index][::-1]
        return name, index, tuple(rows), ("turn", index)

    def test_what_was_returned_does_not_change(self):
        desk = Desk(SCALE, BOOK)
        desk.turn(0)
        book, deeds = desk.book, desk.deeds
        desk.put(THIRD)
        desk.drop(0)
        self.assertEqual((book, deeds), ((FIRST[::-1], SECOND), (("turn", 0),)))


class LikeListsTest(DeskTest):
    """Point [9]: copy, len, in, == and for."""

    def test_copy(self):
        desk = Desk(SCALE, BOOK)
        desk.put(THIRD)
        other = desk.copy()
        self.assertIs(type(other), Desk)
        self.assertIsNot(other, desk)
        self.check_state(other, SCALE, BOOK + (THIRD,), ())
        self.assertEqual(other, desk)
        self.check_raises(NothingToUndo, {}, other, "undo")
        other.drop(0)
        self.check_state(desk, SCALE, BOOK + (THIRD,), (("put", THIRD),))
        desk.undo()
        self.check_state(other, SCALE, (SECOND, THIRD), (("drop", 0, FIRST),))
        other.undo()
        self.check_state(other, SCALE, BOOK + (THIRD,), ())
        self.check_state(desk, SCALE, BOOK, ())

    def test_equal(self):
        self.assertTrue(Desk(SCALE) == Desk(SCALE, ()))
        self.assertTrue(Desk(SCALE, BOOK) == Desk(SCALE, BOOK))
        self.assertFalse(Desk(SCALE, BOOK) != Desk(SCALE, BOOK))
        for other in (Desk(SCALE), Desk(SCALE, BOOK[::-1]), Desk(SCALE, (FIRST[::-1], SECOND)), Desk(SCALE, BOOK[:1])):
            self.assertFalse(Desk(SCALE, BOOK) == other)
            self.assertTrue(Desk(SCALE, BOOK) != other)
        self.assertFalse(Desk(SCALE) == Desk(((2, 3, 5),)))
        self.assertFalse(Desk(((1, 1),)) == Desk(((1, 1), (1, 1))))

    def test_deeds_do_not_count_for_equal(self):
        desk = Desk(SCALE)
        desk.put(FIRST)
        self.assertTrue(desk == Desk(SCALE, (FIRST,)))
        desk.undo()
        self.assertTrue(desk == Desk(SCALE))

    def test_equal_to_no_other_value(self):
        for value in OTHERS + (SCALE, BOOK, (SCALE, BOOK), (), "Desk", [SCALE, BOOK]):
            for desk in (Desk(SCALE), Desk(SCALE, BOOK)):
                self.assertIs(desk == value, False)
                self.assertIs(value == desk, False)
                self.assertIs(desk != value, True)

    def test_in(self):
        desk = Desk(SCALE, BOOK)
        for pair in BOOK:
            self.assertIs(pair in desk, True)
            self.assertIs(pair[::-1] in desk, True)
        for pair in (THIRD, THIRD[::-1], ((3, 0, 0), (1, 0, 1)), ((2, 1, 0), (0, 1, 1)), ((4, 0, 0), (0, 0, 2))):
            self.assertIs(pair in desk, False)
            self.assertIs(pair in Desk(SCALE), False)
        desk.drop(0)
        self.assertIs(FIRST in desk, False)
        desk.turn(0)
        self.assertIs(SECOND in desk, True)

    def test_in_for_values_of_any_kind(self):
        desk = Desk(SCALE, BOOK)
        for word, values in BAD_EXCHANGES:
            for value in values:
                self.assertIs(value in desk, False)
        looks_alike = (
            ((2, 0, False), (0, 0, 1)), ((2, 0, 0), (0, 0, True)), ((True, 0, 1), (0, 2, 0)), [FIRST[0], FIRST[1]],
            (list(FIRST[0]), FIRST[1]), ((2, 0, 0), {0: 0}), BOOK, FIRST[0], 0, 1, "2.0.0>0.0.1", desk.deeds,
        )
        for value in looks_alike:
            self.assertIs(value in desk, False)

    def test_for(self):
        self.assertEqual(list(Desk(SCALE)), [])
        self.assertEqual(list(Desk(SCALE, FULL)), list(FULL))
        desk = Desk(SCALE, BOOK)
        self.assertEqual([(one, other) for one in desk for other in desk], list(product(BOOK, BOOK)))

    def test_for_goes_through_the_book_that_there_was(self):
        for deed, given in (("drop", 0), ("drop", 2), ("turn", 1), ("put", SECOND), ("put", THIRD)):
            desk = Desk(SCALE, FULL[:5])
            gone = []
            for exchange in desk:
                if len(gone) == 1:
                    getattr(desk, deed)(given)
                gone.append(exchange)
            self.assertEqual(tuple(gone), FULL[:5])
            self.assertNotEqual(tuple(desk), FULL[:5])

    def test_for_where_each_is_dropped(self):
        desk = Desk(SCALE, FULL)
        gone = []
        for exchange in desk:
            gone.append(exchange)
            desk.drop(0)
        self.assertEqual((tuple(gone), len(desk)), (FULL, 0))
        gone = []
        for exchange in desk.copy():
            gone.append(exchange)
        self.assertEqual(gone, [])
        for _ in range(30):
            desk.undo()
        self.assertEqual(tuple(desk), FULL)

    def test_one_loop_in_another(self):
        desk = Desk(SCALE, BOOK)
        seen = []
        for one in desk:
            if len(desk) == 2:
                desk.put(THIRD)
            seen.append((one, list(desk)))
            desk.undo()
            desk.put(FULL[1])
        self.assertEqual(seen, [(FIRST, [FIRST, SECOND, THIRD]), (SECOND, [FIRST, SECOND, FULL[1]])])
        self.assertEqual(tuple(desk), BOOK + (FULL[1],))


class AnswersTest(DeskTest):
    """Point [9]: joins, apart, walk, lowers and stuck."""

    def test_joins_and_apart(self):
        desk = Desk(SCALE, (FIRST,))
        self.assertIs(desk.joins(), False)
        self.assertEqual(desk.apart(), ((0, 2, 0), (1, 0, 1)))
        desk.put(SECOND)
        self.assertIs(desk.joins(), True)
        self.assertIsNone(desk.apart())
        desk.drop(0)
        self.assertEqual(desk.apart(), ((0, 0, 1), (2, 0, 0)))
        desk.undo()
        self.assertIs(desk.joins(), True)

    def test_as_the_functions(self):
        for scale in SCALES + KNOTTED:
            least = least_exchanges(scale)
            for book in ((), least[:1], least[1:], least):
                desk = Desk(scale, book)
                self.assertIs(desk.joins(), joins(scale, book))
                self.assertEqual(desk.apart(), apart(scale, book))
                for prices in (tuple(range(len(scale[0]))), (0,) * len(scale[0]), (-3,) + (5,) * (len(scale[0]) - 1)):
                    self.assertIs(desk.lowers(prices), lowers(scale, prices, book))
                    self.assertEqual(desk.stuck(prices), stuck(scale, prices, book))
                one, other = (2,) * len(scale[0]), (0,) * len(scale[0])
                self.assertEqual(desk.walk(one, one), ())
                with self.assertRaises(Unlike):
                    desk.walk(one, other)

    def test_walk(self):
        desk = Desk(SCALE, BOOK)
        self.assertEqual(desk.walk((3, 0, 0), (0, 2, 0)), ((0, 1), (1, 1)))
        self.assertEqual(desk.walk((3, 0, 0), (0, 2, 0), most=None), ((0, 1), (1, 1)))
        desk.turn(0)
        self.assertEqual(desk.walk((3, 0, 0), (0, 2, 0)), ((0, -1), (1, 1)))
        self.assertEqual(desk.walk(other=(0, 2, 0), one=(3, 0, 0)), walk(SCALE, desk.book, (3, 0, 0), (0, 2, 0)))
        desk.drop(0)
        self.assertIsNone(desk.walk((3, 0, 0), (0, 2, 0)))

    def test_walk_with_most(self):
        desk = Desk(SCALE, BOOK)
        for most in (0, 1):
            self.assertIsNone(desk.walk((3, 0, 0), (0, 2, 0), most=most))
        for most in (2, 3, 10 ** 39):
            self.assertEqual(desk.walk((3, 0, 0), (0, 2, 0), most=most), ((0, 1), (1, 1)))
        for most in (None, 0, 1, 10 ** 39):
            self.assertEqual(desk.walk((3, 0, 0), (3, 0, 0), most=most), ())
            self.assertIsNone(Desk(SCALE).walk((3, 0, 0), (0, 2, 0), most=most))
        long = Desk(((1, 1),), (((1, 0), (0, 1)),))
        self.assertEqual(long.walk((40, 0), (0, 40), most=40), ((0, 1),) * 40)
        self.assertIsNone(long.walk((40, 0), (0, 40), most=39))

    def test_most_is_told_by_name_only(self):
        with self.assertRaises(TypeError):
            Desk(SCALE, BOOK).walk((3, 0, 0), (0, 2, 0), 2)
        self.assertEqual(Desk(SCALE, BOOK).walk(most=2, other=(0, 2, 0), one=(3, 0, 0)), ((0, 1), (1, 1)))

    def test_unlike_ahead_of_too_many(self):
        scale = ((1, 1, 1),)
        desk = Desk(scale, least_exchanges(scale))
        for most in (None, 0, 1, 10 ** 39):
            with self.assertRaises(Unlike):
                desk.walk((40, 40, 40), (40, 40, 39), most=most)
            for other in ((40, 40, 40), (41, 40, 39)):
                with self.assertRaises(TooMany):
                    desk.walk((40, 40, 40), other, most=most)

    def test_lowers_and_stuck(self):
        desk = Desk(SCALE, BOOK)
        self.assertIs(desk.lowers((0, 1, 1)), True)
        self.assertIsNone(desk.stuck((0, 1, 1)))
        self.assertIs(desk.lowers((0, 0, 0)), False)
        self.assertEqual(desk.stuck((0, 0, 0)), (0, 4, 0))
        desk.drop(1)
        self.assertEqual(desk.stuck((0, 1, 1)), (0, 2, 0))
        desk.undo()
        self.assertIs(desk.lowers(value=(0, 1, 1)), True)
        self.assertIsNone(desk.stuck(value=(0, 1, 1)))

    def test_prices_of_thirty_digits(self):
        great = 10 ** 30 - 1
        desk = Desk(SCALE, BOOK)
        self.assertIs(desk.lowers((-great, great, great)), True)
        self.assertEqual(desk.stuck((great, great, great)), stuck(SCALE, (great,) * 3, BOOK))

    def test_bad_prices(self):
        bad = OTHERS + (
            (), (1,), (1, 2), (1, 2, 3, 4), [0, 1, 1], {0: 0, 1: 1, 2: 1}, "011", (0, 1, True), (False, 1, 1),
            (10 ** 30, 0, 0), (0, -10 ** 30, 0), (0, 1, None), (0, "1", 1), (0, (1,), 1), (0, [1], 1), ((0, 1, 1),),
        )
        for value in bad:
            for desk in (Desk(SCALE), Desk(SCALE, BOOK)):
                self.check_raises(BadPrices, {}, desk, "lowers", value)
                self.check_raises(BadPrices, {}, desk, "stuck", value)

    def test_asking_changes_nothing(self):
        desk = Desk(WIDE_TABLE, least_exchanges(WIDE_TABLE))
        desk.turn(2)
        before = desk.scale, desk.book, desk.deeds
        desk.joins(), desk.apart(), desk.walk((1,) * 6, (1,) * 6), desk.lowers((1,) * 6), desk.stuck((1,) * 6)
        desk.copy(), len(desk), FIRST in desk, list(desk), desk == desk.copy()
        self.check_state(desk, *before)


class ConventionsTest(DeskTest):
    """Point [2], and the interface, for desks.py."""

    METHODS = ("joins", "apart", "put", "drop", "turn", "undo", "walk", "lowers", "stuck", "copy")

    def test_all_methods_are_its_own(self):
        self.assertEqual(Desk.__module__, "barterheaps.desks")
        self.assertIs(desks.Desk, Desk)
        self.assertEqual(Desk.__bases__, (object,))
        for name in self.METHODS + ("scale", "book", "deeds", "__len__", "__contains__", "__eq__", "__iter__"):
            self.assertIn(name, vars(Desk))

    def test_names_of_arguments(self):
        told = {
            "put": ["value"], "drop": ["value"], "turn": ["value"], "undo": [], "joins": [], "apart": [], "copy": [],
            "walk": ["one", "other", "most"], "lowers": ["value"], "stuck": ["value"],
        }
        for name, words in told.items():
            self.assertEqual(list(inspect.signature(getattr(Desk(SCALE), name)).parameters), words)
        self.assertEqual(str(inspect.signature(Desk)), "(scale, book=())")

    def test_arguments_by_name(self):
        desk = Desk(TABLE)
        pair = ((1, 0, 0, 1), (0, 1, 1, 0))
        self.assertEqual(desk.put(value=pair), 1)
        self.assertEqual(desk.turn(value=0), 1)
        self.assertEqual(desk.drop(value=0), 0)
        self.assertEqual(desk.deeds, (("put", pair), ("turn", 0), ("drop", 0, pair[::-1])))

    def test_kinds_of_what_is_returned(self):
        desk = Desk(SCALE, (FIRST,))
        numbers = [desk.put(SECOND), desk.turn(0), desk.drop(0), desk.undo(), len(desk)]
        self.assertEqual([type(number) for number in numbers], [int] * 5)
        self.assertIs(type(desk.joins()), bool)
        self.assertIs(type(Desk(SCALE).apart()), tuple)
        self.assertTrue(is_plain((Desk(SCALE).apart(), desk.walk((3, 0, 0), (0, 2, 0)), desk.stuck((0, 0, 0)))))


if __name__ == "__main__":
    unittest.main()
