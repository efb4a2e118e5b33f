"""The document as a whole: its guarantees, its interface and its conventions over all files."""

import copy
import importlib
import inspect
import unittest
from itertools import combinations, product
from random import Random

from barterheaps import books, bounds, caps, costs, counted, desks, errors, exchanges, fans, far, groups, kept, scales
from barterheaps import tables, texts
from values import (
    KNOTTED, OTHERS, SCALES, TABLE, bounded_lots, greatest_sum, is_plain, random_scales,
    slow_apart, slow_groups, slow_lot, slow_lowered, slow_lowering_book, slow_pieces, slow_sums, some_prices,
)

SCALE = ((2, 3, 4),)
FIRST = ((2, 0, 0), (0, 0, 1))
SECOND = ((1, 0, 1), (0, 2, 0))
BOOK = (FIRST, SECOND)
BAD = (1, [2, {"3": (4, [5])}])
FAR = 10 ** 30

# Each function with arguments, in the order of the interface.
CALLS = {
    scales: {
        "scale_error": ({"value": SCALE}, {"value": BAD}),
        "free": ({"scale": SCALE},),
        "is_heap": ({"scale": SCALE, "value": (1, 2, 3)}, {"scale": SCALE, "value": BAD}),
        "sums_of": ({"scale": SCALE, "heap": (1, 2, 3)},),
        "lot": ({"scale": SCALE, "sums": (12,)}, {"scale": ((1, 1),), "sums": (3000,)}),
    },
    exchanges: {
        "exchange_error": ({"scale": SCALE, "value": FIRST}, {"scale": SCALE, "value": BAD}),
        "forth": ({"exchange": FIRST, "heap": (2, 1, 0)}, {"exchange": FIRST, "heap": (1, 1, 1)}),
        "back": ({"exchange": FIRST, "heap": (2, 1, 1)}, {"exchange": FIRST, "heap": (2, 1, 0)}),
        "bare": ({"exchange": ((3, 0, 0), (1, 0, 1))},),
        "is_within": ({"one": FIRST, "other": ((4, 0, 0), (0, 0, 2))},),
        "least_exchanges": ({"scale": SCALE},),
    },
    groups: {
        "groups": ({"scale": SCALE, "sums": (6,)}, {"scale": ((1, 1),), "sums": (3000,)}),
        "critical": ({"scale": SCALE},),
    },
    books: {
        "book_error": ({"scale": SCALE, "value": BOOK}, {"scale": SCALE, "value": BAD}),
        "piece": ({"scale": SCALE, "book": BOOK, "heap": (3, 0, 0)},),
        "walk": (
            {"scale": SCALE, "book": BOOK, "one": (3, 0, 0), "other": (0, 2, 0)},
            {"scale": SCALE, "book": BOOK, "one": (3, 0, 0), "other": (0, 2, 1)},
        ),
        "joins": ({"scale": SCALE, "book": BOOK},),
        "apart": ({"scale": SCALE, "book": (FIRST,)},),
        "least_size": ({"scale": SCALE},),
        "least_book": ({"scale": SCALE},),
        "needed": ({"scale": SCALE},),
        "needless": ({"scale": SCALE, "book": BOOK}, {"scale": SCALE, "book": (FIRST,)}),
        "is_least": ({"scale": SCALE, "book": BOOK},),
    },
    kept: {
        "is_kept": ({"book": BOOK, "row": (2, 3, 4)},),
        "kept": ({"book": (FIRST,), "kinds": 3},),
        "plain": ({"scale": SCALE},),
        "is_tight": ({"scale": SCALE, "book": BOOK},),
    },
    tables: {
        "cells": ({"rows": 2, "columns": 3, "value": ((1, 0),)}, {"rows": 2, "columns": 3, "value": ((2, 0),)}),
        "table_scale": ({"rows": 2, "columns": 3, "value": ((1, 0),)}, {"rows": 2, "columns": 3, "value": BAD}),
        "table_book": ({"rows": 2, "columns": 3, "value": ()}, {"rows": 2, "columns": 3, "value": [BAD]}),
    },
    costs: {
        "cost": ({"prices": (1, 2, 3), "heap": (4, 5, 6)},),
        "cheapest": ({"scale": SCALE, "prices": (0, 1, 1), "sums": (6,)},),
        "lowering_book": ({"scale": SCALE, "prices": (0, 1, 1)},),
        "lowers": ({"scale": SCALE, "prices": (0, 1, 1), "book": BOOK},),
        "stuck": ({"scale": SCALE, "prices": (0, 1, 1), "book": (FIRST,)},),
        "way_down": ({"scale": SCALE, "prices": (0, 1, 1), "book": BOOK, "heap": (0, 2, 0)},),
        "parted_prices": ({"scale": SCALE, "one": (0, 0, 0), "other": (0, 1, 1)},),
    },
    caps: {
        "piece_within": ({"scale": SCALE, "book": BOOK, "caps": (3, 1, 3), "heap": (3, 0, 0)},),
        "joins_within": ({"scale": SCALE, "book": BOOK, "caps": (3, 2, 0)},),
        "apart_within": ({"scale": SCALE, "book": BOOK, "caps": (3, 2, 0)},),
        "joins_under_caps": ({"scale": SCALE, "book": BOOK},),
        "apart_under_caps": ({"scale": SCALE, "book": BOOK},),
    },
    fans: {"lowering_books": ({"scale": SCALE}, {"scale": ((1, 1, 1, 1),)})},
    far: {
        "far_walk": (
            {"scale": SCALE, "one": (FAR, 0, 0), "other": (0, 0, FAR // 2)},
            {"scale": SCALE, "one": (FAR, 0, 0), "other": (0, 0, FAR)},
        ),
        "far_heap": (
            {"heap": (FAR, 0, 0), "steps": ((FIRST, 5),)}, {"heap": (0, 0, 0), "steps": ((FIRST, 5),)},
        ),
    },
    counted: {
        "many_heaps": ({"scale": SCALE, "sums": (FAR,)},),
        "heap_at": ({"scale": SCALE, "sums": (12,), "value": 3}, {"scale": SCALE, "sums": (12,), "value": BAD}),
        "number_of": ({"scale": SCALE, "heap": (1, 2, 3)},),
        "even_heap": ({"scale": SCALE, "sums": (12,), "value": 10}, {"scale": SCALE, "sums": (12,), "value": BAD}),
    },
    texts: {
        "book_text": ({"book": BOOK},),
        "read_book": (
            {"scale": SCALE, "value": "2.0.0>0.0.1"}, {"scale": SCALE, "value": "2.0.0"}, {"scale": SCALE, "value": BAD},
        ),
    },
}

ERRORS = {
    "BadScale": {"word": "row"}, "BadBook": {"index": 1, "word": "heap"}, "BadExchange": {"word": "same"},
    "BadBars": {}, "BadText": {"place": 3}, "BadPrices": {}, "Short": {"kind": 2}, "Unlike": {}, "TooMany": {},
    "TooFree": {}, "NoHeap": {}, "NotJoining": {}, "NoExchange": {}, "Twice": {"index": 0}, "Full": {},
    "NothingToUndo": {},
}

DEEDS = (
    ("put", {"value": FIRST}), ("put", {"value": SECOND}), ("put", {"value": FIRST}), ("put", {"value": BAD}),
    ("turn", {"value": 1}), ("turn", {"value": 2}), ("drop", {"value": 0}), ("drop", {"value": BAD}), ("undo", {}),
    ("walk", {"one": (3, 0, 0), "other": (0, 2, 0)}), ("walk", {"one": (3, 0, 0), "other": (0, 2, 1)}),
    ("lowers", {"value": (0, 1, 1)}), ("stuck", {"value": (0, 0, 0)}), ("lowers", {"value": BAD}),
    ("stuck", {"value": BAD}), ("joins", {}), ("apart", {}), ("undo", {}), ("undo", {}), ("undo", {}), ("undo", {}),
)


def answer(function, given, named):
    """What the function returns or raises, for arguments by position or, turned round, by name."""
    try:
        if named:
            return "returned", function(**dict(reversed(given.items())))
        return "returned", function(*given.values())
    except errors.BarterError as caught:
        return type(caught), vars(caught)


class InterfaceTest(unittest.TestCase):
    """The section "The interface"."""

    def test_each_name_is_defined_where_it_is_listed(self):
        for module, functions in CALLS.items():
            for name in functions:
                self.assertTrue(inspect.isfunction(getattr(module, name)))
                self.assertEqual(getattr(module, name).__module__, module.__name__)
        self.assertEqual(desks.Desk.__module__, "barterheaps.desks")
        for name in tuple(ERRORS) + ("BarterError",):
            self.assertEqual(getattr(errors, name).__module__, "barterheaps.errors")

    def test_how_many_there_are(self):
        self.assertEqual(sum(len(functions) for functions in CALLS.values()), 51)
        self.assertEqual(len(ERRORS), 16)
        told = "SINGLE WEIGHT ROWS KINDS FREE COUNT LOT BOOK CAP FAN FAR"
        self.assertEqual([name for name in vars(bounds) if name[0] != "_"], ["MAX_" + word for word in told.split()])

    def test_names_of_arguments(self):
        for module, functions in CALLS.items():
            for name, calls in functions.items():
                parameters = inspect.signature(getattr(module, name)).parameters
                for given in calls:
                    self.assertEqual(list(parameters), list(given))
                self.assertEqual([one.default for one in parameters.values()], [inspect.Parameter.empty] * len(parameters))

    def test_each_module_is_found(self):
        for module in CALLS:
            self.assertIs(importlib.import_module(module.__name__), module)


class ConventionsTest(unittest.TestCase):
    """Point [2] over the whole program."""

    def test_arguments_by_name_in_another_order(self):
        kinds = set()
        for module, functions in CALLS.items():
            for name, calls in functions.items():
                for given in calls:
                    before = copy.deepcopy(given)
                    told = answer(getattr(module, name), given, named=False)
                    self.assertEqual(answer(getattr(module, name), given, named=True), told, name)
                    self.assertEqual(given, before)
                    self.assertEqual(answer(getattr(module, name), given, named=False), told)
                    kinds.add(told[0])
                    if told[0] == "returned":
                        self.assertTrue(is_plain(told[1]), name)
                self.assertEqual(answer(getattr(module, name), calls[0], named=False)[0], "returned")
        self.assertEqual(kinds, {
            "returned", errors.TooMany, errors.Short, errors.Unlike, errors.NotJoining, errors.BadBars, errors.TooFree,
            errors.NoHeap, errors.BadText,
        })

    def test_deeds_by_name(self):
        one, other = desks.Desk(SCALE), desks.Desk(book=(), scale=SCALE)
        for name, given in DEEDS:
            told = answer(getattr(one, name), given, named=False)
            self.assertEqual(answer(getattr(other, name), given, named=True), told, name)
            self.assertEqual((other.book, other.deeds), (one.book, one.deeds))
            if told[0] == "returned":
                self.assertTrue(is_plain(told[1]), name)
        self.assertEqual((one.book, one.deeds), ((), ()))

    def test_errors_by_name(self):
        for name, given in ERRORS.items():
            for error in (getattr(errors, name)(*given.values()), getattr(errors, name)(**dict(reversed(given.items())))):
                self.assertIsInstance(error, errors.BarterError)
                self.assertEqual(vars(error), given)

    def test_any_values(self):
        deep = ()
        for _ in range(11):
            deep = (deep,)
        values = OTHERS + (BAD, ((),), [[[]]], {"a": {"b": [1]}}, "x" * 2000, deep)
        values += ((SCALE,), (SCALE, BOOK), (None,) * 400, "2.0.0>0.0.1" * 100, (10 ** 39,) * 3, (-10 ** 39,) * 3)
        desk = desks.Desk(SCALE, BOOK)
        for value in values:
            before = copy.deepcopy(value)
            for module, functions in CALLS.items():
                for name, calls in functions.items():
                    if "value" in calls[0]:
                        answer(getattr(module, name), dict(calls[0], value=value), named=True)
            for name in ("put", "drop", "turn", "lowers", "stuck"):
                answer(getattr(desk.copy(), name), {"value": value}, named=True)
            answer(desks.Desk, {"scale": value, "book": value}, named=True)
            answer(desks.Desk, {"scale": SCALE, "book": value}, named=True)
            self.assertIs(value in desk, False)
            self.assertIs(desk == value, False)
            self.assertEqual(value, before)


class GuaranteesTest(unittest.TestCase):
    """Point [1]."""

    def each(self):
        """Scales with all their lots up to sums that no sum of a least exchange is above, and books."""
        some = (SCALE, ((1, 2, 3),), ((6, 4),), ((2, 3, 3, 2),), ((1, 1, 1, 1),), ((5, 2, 2),), TABLE)
        chosen = [scale for scale in random_scales(60, 41) + list(KNOTTED) if greatest_sum(scale) in (1, 2)]
        self.assertGreater(len(chosen), 20)
        for number, scale in enumerate(some + tuple(chosen[:24])):
            lots = bounded_lots(scale, greatest_sum(scale))
            yield scale, lots, self.books_of(scale, lots, number)

    def books_of(self, scale, lots, seed):
        """Books of least exchanges and of others, and the least book."""
        chance = Random(seed)
        least = exchanges.least_exchanges(scale)
        pairs = [pair for heaps in lots.values() for pair in combinations(heaps, 2)]
        found = [(), least[:30], books.least_book(scale)]
        for _ in range(6):
            book = []
            for pair in chance.sample(least, chance.randint(0, len(least))) + [chance.choice(pairs or least or [None])]:
                if pair is not None and len(book) < 30 and pair not in book and pair[::-1] not in book:
                    book.append(pair[::chance.choice((-1, 1))])
            found.append(tuple(book))
        return found

    def test_joins_and_apart(self):
        """(a)"""
        for scale, lots, some in self.each():
            for book in some:
                told = slow_apart(lots, book)
                self.assertIs(books.joins(scale, book), told is None, (scale, book))
                pair = books.apart(scale, book)
                if told is not None:
                    one, other = pair
                    sums = slow_sums(scale, one)
                    self.assertEqual(slow_sums(scale, other), sums)
                    self.assertNotIn(other, slow_pieces(lots[sums], book)[one])
                else:
                    self.assertIsNone(pair)
                    heap = (2,) * len(scale[0])
                    self.assertEqual(books.piece(scale, book, heap), slow_lot(scale, slow_sums(scale, heap)))

    def test_groups_are_tied(self):
        """(b)"""
        for scale, lots, some in self.each():
            for book in some:
                tied = all([self.ties(scale, sums, many, lots, book) for sums, many in groups.critical(scale)])
                self.assertIs(books.joins(scale, book), tied)

    def ties(self, scale, sums, many, lots, book):
        """Whether the exchanges of these sums tie the groups together."""
        parts = slow_groups(lots[sums])
        self.assertEqual(len(parts), many)
        reached, grown = {0}, True
        while grown:
            before = len(reached)
            for take, put in book:
                if slow_sums(scale, take) == sums:
                    ends = {index for index, part in enumerate(parts) if take in part or put in part}
                    if ends & reached:
                        reached |= ends
            grown = len(reached) > before
        return len(reached) == many

    def test_each_exchange_holds_a_least_one(self):
        """(c)"""
        for scale, lots, _ in self.each():
            least = exchanges.least_exchanges(scale)
            for heaps in lots.values():
                for pair in list(combinations(heaps, 2))[:60]:
                    self.assertTrue(any(exchanges.is_within(one, pair) for one in least))
            sums = {slow_sums(scale, take) for take, _ in least}
            self.assertLessEqual({told for told, _ in groups.critical(scale)}, sums)

    def test_all_least_books_are_of_one_size(self):
        """(d)"""
        for scale, _, some in self.each():
            chance = Random(42)
            for book in some:
                if books.joins(scale, book):
                    while books.needless(scale, book):
                        index = chance.choice(books.needless(scale, book))
                        book = book[:index] + book[index + 1:]
                    self.assertIs(books.is_least(scale, book), True)
                    self.assertEqual(len(book), books.least_size(scale))
                    for pair in books.needed(scale):
                        self.assertTrue(pair in book or pair[::-1] in book)

    def test_lowering(self):
        """(e)"""
        for scale, lots, some in self.each():
            for prices in some_prices(scale, 1, 43)[::2]:
                takes = [take for take, _ in slow_lowering_book(lots, prices)]
                self.assertEqual([take for take, _ in costs.lowering_book(scale, prices)], takes)
                for book in some:
                    told = all(slow_lowered(take, prices, book) for take in takes)
                    self.assertIs(costs.lowers(scale, prices, book), told)
                    self.assertIs(desks.Desk(scale, book).lowers(prices), told)
                if len(exchanges.least_exchanges(scale)) <= 30:
                    self.assertIs(costs.lowers(scale, prices, exchanges.least_exchanges(scale)), True)

    def test_books_that_lower_all_heaps_join_them(self):
        """All heaps of a lot lead down to its cheapest one."""
        for scale, _, some in self.each():
            for prices in some_prices(scale, 1, 44)[::3]:
                for book in some + [costs.lowering_book(scale, prices)]:
                    if costs.lowers(scale, prices, book):
                        self.assertIs(books.joins(scale, book), True)

    def test_under_caps(self):
        """(f)"""
        for scale, _, some in self.each():
            if len(scale[0]) < 5:
                all_caps = list(product((0, 1, 2, 5), repeat=len(scale[0])))[::5]
                for book in some:
                    told = caps.apart_under_caps(scale, book)
                    if told is None:
                        self.assertTrue(all(caps.joins_within(scale, book, bound) for bound in all_caps))
                    else:
                        self.assertEqual(caps.apart_within(scale, book, told[2]) is None, False)
                        self.assertNotIn(told[1], caps.piece_within(scale, book, told[2], told[0]))


class TogetherTest(unittest.TestCase):
    """Files that build on one another."""

    def test_texts_of_desks(self):
        for scale in SCALES + KNOTTED:
            desk = desks.Desk(scale, books.least_book(scale))
            again = desks.Desk(scale, texts.read_book(scale, texts.book_text(desk.book)))
            self.assertEqual(again, desk)

    def test_fans_and_prices(self):
        for scale in (SCALE, ((1, 1, 1),), TABLE):
            pairs = fans.lowering_books(scale)
            for (book, prices), (other, more) in product(pairs, repeat=2):
                self.assertEqual(costs.parted_prices(scale, prices, more) is None, book == other)

    def test_numbers_and_far_walks(self):
        many = counted.many_heaps(SCALE, (FAR,))
        heaps = [counted.even_heap(SCALE, (FAR,), 7 ** 70 * step) for step in range(8)]
        for one, other in product(heaps, repeat=2):
            steps = far.far_walk(SCALE, one, other)
            self.assertEqual(far.far_heap(one, steps), other)
            self.assertLess(counted.number_of(SCALE, other), many)
            self.assertTrue(all(exchanges.exchange_error(SCALE, pair) is None for pair, _ in steps))

    def test_example(self):
        self.assertEqual(groups.critical(SCALE), (((4,), 2), ((6,), 2)))
        self.assertEqual(books.least_book(SCALE), (((2, 0, 0), (0, 0, 1)), ((1, 0, 1), (0, 2, 0))))
        self.assertEqual(books.apart(SCALE, (((2, 0, 0), (0, 0, 1)),)), ((0, 2, 0), (1, 0, 1)))
        self.assertEqual(books.walk(SCALE, books.least_book(SCALE), (3, 0, 0), (0, 2, 0)), ((0, 1), (1, 1)))


if __name__ == "__main__":
    unittest.main()
