import copy
import inspect
import unittest
from itertools import combinations, permutations, product

from barterheaps import tables
from barterheaps.books import book_error, is_least, joins
from barterheaps.errors import BadBars
from barterheaps.exchanges import least_exchanges
from barterheaps.groups import critical
from barterheaps.scales import lot, scale_error, sums_of
from barterheaps.tables import cells, table_book, table_scale
from values import OTHERS, TABLE, WIDE_TABLE, is_plain

FUNCTIONS = (cells, table_scale, table_book)
SIZES = [(rows, columns) for rows in range(1, 6) for columns in range(1, 6) if rows + columns <= 6]
ODD_BARS = ((0, 0), (1, 1), (2, 2))


def all_cells(rows, columns):
    """The cells of the table, in order."""
    return list(product(range(rows), range(columns)))


def all_bars(rows, columns, most):
    """All tuples of bars of the table, in order, that leave 1 to most cells."""
    every = all_cells(rows, columns)
    for many in range(max(0, len(every) - most), len(every)):
        yield from combinations(every, many)


def slow_book(rows, columns, bars):
    """The book of the exchanges of four cells, by going through all pairs of kinds."""
    kinds = [cell for cell in all_cells(rows, columns) if cell not in bars]
    found = []
    for one, two in permutations(kinds, 2):
        three, four = (one[0], two[1]), (two[0], one[1])
        if one[0] < two[0] and one[1] < two[1] and three in kinds and four in kinds:
            take = tuple(1 if cell in (one, two) else 0 for cell in kinds)
            put = tuple(1 if cell in (three, four) else 0 for cell in kinds)
            found.append(((one[0], two[0], one[1], two[1]), (take, put)))
    return tuple(pair for _, pair in sorted(found))


class CellsTest(unittest.TestCase):
    """Point [8]: cells."""

    def test_no_bars(self):
        self.assertEqual(cells(2, 2, ()), ((0, 0), (0, 1), (1, 0), (1, 1)))
        self.assertEqual(cells(2, 3, ()), ((0, 0), (0, 1), (0, 2), (1, 0), (1, 1), (1, 2)))
        self.assertEqual(cells(1, 1, ()), ((0, 0),))
        self.assertEqual(cells(1, 5, ()), tuple((0, column) for column in range(5)))
        self.assertEqual(cells(5, 1, ()), tuple((row, 0) for row in range(5)))

    def test_bars(self):
        self.assertEqual(cells(3, 3, ODD_BARS), ((0, 1), (0, 2), (1, 0), (1, 2), (2, 0), (2, 1)))
        self.assertEqual(cells(2, 2, ((0, 1),)), ((0, 0), (1, 0), (1, 1)))
        self.assertEqual(cells(2, 2, ((0, 1), (1, 0))), ((0, 0), (1, 1)))

    def test_all_bars_of_all_tables(self):
        self.assertEqual(len(SIZES), 15)
        for rows, columns in SIZES:
            for bars in all_bars(rows, columns, 6):
                told = tuple(cell for cell in all_cells(rows, columns) if cell not in bars)
                self.assertEqual(cells(rows, columns, bars), told)

    def test_bars_in_any_order(self):
        for bars in permutations(ODD_BARS):
            self.assertEqual(cells(3, 3, bars), cells(3, 3, ODD_BARS))
            self.assertEqual(table_scale(3, 3, bars), table_scale(3, 3, ODD_BARS))
            self.assertEqual(table_book(3, 3, bars), table_book(3, 3, ODD_BARS))

    def test_one_cell_left(self):
        for rows, columns in SIZES:
            for left in all_cells(rows, columns):
                bars = tuple(cell for cell in all_cells(rows, columns) if cell != left)
                self.assertEqual(cells(rows, columns, bars), (left,))

    def test_most_cells_left(self):
        for rows, columns in ((3, 3), (2, 4), (4, 2), (2, 3), (3, 2)):
            many = rows * columns - 6
            for bars in combinations(all_cells(rows, columns), many):
                self.assertEqual(len(cells(rows, columns, bars)), 6)


class BadBarsTest(unittest.TestCase):
    """Point [8]: BadBars() from all three."""

    def check(self, rows, columns, *values):
        for value in values:
            before = copy.deepcopy(value)
            for function in FUNCTIONS:
                with self.subTest(function=function.__name__, value=value), self.assertRaises(BadBars):
                    function(rows, columns, value)
            self.assertEqual(value, before)

    def test_no_tuple(self):
        self.check(2, 2, *OTHERS)
        self.check(2, 2, [(0, 0)], {(0, 0): 1}, "00", [[0, 0]], {})
        self.check(3, 3, *OTHERS)
        self.check(3, 3, list(ODD_BARS), {cell: 1 for cell in ODD_BARS})

    def test_no_cells(self):
        self.check(2, 2, *[(item,) for item in OTHERS])
        self.check(2, 2, *[((0, 0), item) for item in OTHERS])
        self.check(2, 2, *[((item, 0),) for item in OTHERS if item not in (0, 1) or item is True or item is False])
        self.check(2, 2, *[((0, item),) for item in OTHERS if item not in (0, 1) or item is True or item is False])
        self.check(2, 2, ((),), ((0,),), ((0, 0, 0),), ([0, 0],), ("00",), (0, 0), ((0, (0,)),), (((0, 0),),))
        self.check(2, 2, ({0: 0, 1: 0},), ((0, 0), [0, 1]), ((0, [0]),), (([0], 0),), ((0, {}),))

    def test_true_and_false_are_no_integers(self):
        self.check(2, 2, ((True, 0),), ((0, True),), ((False, 0),), ((0, False),), ((True, True),), ((0, 0), (1, True)))
        self.check(3, 3, ((0, 0), (True, 1), (2, 2)), ((False, 0), (1, 1), (2, 2)))

    def test_outside(self):
        self.check(2, 2, ((2, 0),), ((0, 2),), ((-1, 0),), ((0, -1),), ((10 ** 39, 0),), ((0, -10 ** 39),))
        self.check(2, 3, ((2, 0),), ((0, 3),), ((0, 0), (2, 2)))
        self.check(1, 1, ((0, 1),), ((1, 0),))

    def test_twice(self):
        self.check(2, 2, ((0, 0), (0, 0)), ((0, 1), (1, 1), (0, 1)))
        self.check(3, 3, ((0, 0), (1, 1), (0, 0)), ODD_BARS + ((2, 2),))

    def test_no_cell_left(self):
        for rows, columns in SIZES:
            self.check(rows, columns, tuple(all_cells(rows, columns)))

    def test_too_many_cells_left(self):
        for rows, columns in ((3, 3), (2, 4), (4, 2)):
            every = all_cells(rows, columns)
            for many in range(len(every) - 6):
                self.check(rows, columns, *list(combinations(every, many))[:12])
        # Two of the same leave more than they seem to.
        self.check(2, 4, ((0, 0), (0, 0)))


class TableScaleTest(unittest.TestCase):
    """Point [8]: table_scale."""

    def test_told(self):
        self.assertEqual(table_scale(2, 2, ()), TABLE)
        self.assertEqual(table_scale(2, 3, ()), WIDE_TABLE)
        self.assertEqual(table_scale(1, 1, ()), ((1,), (1,)))
        self.assertEqual(table_scale(1, 2, ()), ((1, 1), (1, 0), (0, 1)))
        self.assertEqual(table_scale(2, 1, ()), ((1, 0), (0, 1), (1, 1)))
        # A row or column whose cells are all barred is still there.
        self.assertEqual(table_scale(2, 2, ((0, 0), (0, 1))), ((0, 0), (1, 1), (1, 0), (0, 1)))

    def test_all_tables(self):
        for rows, columns in SIZES:
            for bars in all_bars(rows, columns, 6):
                scale = table_scale(rows, columns, bars)
                self.assertIsNone(scale_error(scale), (rows, columns, bars))
                self.assertEqual(len(scale), rows + columns)

    def test_sums_are_those_of_rows_and_columns(self):
        for rows, columns in SIZES:
            for bars in list(all_bars(rows, columns, 6))[::7]:
                kinds = cells(rows, columns, bars)
                heap = tuple(3 ** place for place in range(len(kinds)))
                table = {cell: 0 for cell in all_cells(rows, columns)}
                table.update(zip(kinds, heap))
                along = [sum(table[row, column] for column in range(columns)) for row in range(rows)]
                down = [sum(table[row, column] for row in range(rows)) for column in range(columns)]
                self.assertEqual(sums_of(table_scale(rows, columns, bars), heap), tuple(along + down))

    def test_lot_of_a_table(self):
        scale = table_scale(3, 3, ODD_BARS)
        self.assertEqual(lot(scale, (1,) * 6), ((0, 1, 1, 0, 0, 1), (1, 0, 0, 1, 1, 0)))


class TableBookTest(unittest.TestCase):
    """Point [8]: table_book."""

    def test_told(self):
        self.assertEqual(table_book(2, 2, ()), (((1, 0, 0, 1), (0, 1, 1, 0)),))
        self.assertEqual(table_book(2, 3, ()), (
            ((1, 0, 0, 0, 1, 0), (0, 1, 0, 1, 0, 0)),
            ((1, 0, 0, 0, 0, 1), (0, 0, 1, 1, 0, 0)),
            ((0, 1, 0, 0, 0, 1), (0, 0, 1, 0, 1, 0)),
        ))
        self.assertEqual(table_book(3, 2, ()), (
            ((1, 0, 0, 1, 0, 0), (0, 1, 1, 0, 0, 0)),
            ((1, 0, 0, 0, 0, 1), (0, 1, 0, 0, 1, 0)),
            ((0, 0, 1, 0, 0, 1), (0, 0, 0, 1, 1, 0)),
        ))

    def test_none(self):
        for many in range(1, 6):
            self.assertEqual(table_book(1, many, ()), ())
            self.assertEqual(table_book(many, 1, ()), ())
        self.assertEqual(table_book(2, 2, ((1, 1),)), ())
        self.assertEqual(table_book(3, 3, ODD_BARS), ())

    def test_all_tables(self):
        for rows, columns in SIZES:
            for bars in all_bars(rows, columns, 6):
                book = table_book(rows, columns, bars)
                self.assertEqual(book, slow_book(rows, columns, bars), (rows, columns, bars))
                self.assertIsNone(book_error(table_scale(rows, columns, bars), book))

    def test_without_bars_it_joins_all_heaps(self):
        for rows, columns in SIZES:
            if rows * columns <= 6:
                scale, book = table_scale(rows, columns, ()), table_book(rows, columns, ())
                self.assertIs(joins(scale, book), True)
                self.assertIs(is_least(scale, book), True)

    def test_with_bars_it_need_not(self):
        scale = table_scale(3, 3, ODD_BARS)
        self.assertIs(joins(scale, table_book(3, 3, ODD_BARS)), False)
        self.assertEqual(critical(scale), (((1,) * 6, 2),))
        self.assertEqual(least_exchanges(scale), (((1, 0, 0, 1, 1, 0), (0, 1, 1, 0, 0, 1)),))
        # Here the exchanges of four cells that are left do.
        bars = ((0, 2), (1, 2), (2, 0))
        self.assertEqual(len(table_book(3, 3, bars)), 1)
        self.assertIs(joins(table_scale(3, 3, bars), table_book(3, 3, bars)), True)


class ConventionsTest(unittest.TestCase):
    """Point [2], and the interface, for tables.py."""

    def test_names_and_arguments(self):
        for function in FUNCTIONS:
            self.assertIs(getattr(tables, function.__name__), function)
            self.assertEqual(function.__module__, "barterheaps.tables")
            self.assertEqual(list(inspect.signature(function).parameters), ["rows", "columns", "value"])

    def test_arguments_by_name(self):
        for function in FUNCTIONS:
            told = function(2, 3, ((1, 0),))
            self.assertEqual(function(value=((1, 0),), columns=3, rows=2), told)
            with self.assertRaises(BadBars):
                function(columns=3, value=((2, 0),), rows=2)

    def test_kinds_of_what_is_returned(self):
        for function in FUNCTIONS:
            for rows, columns in SIZES:
                for bars in list(all_bars(rows, columns, 6))[::5]:
                    found = function(rows, columns, bars)
                    self.assertIs(type(found), tuple)
                    self.assertTrue(is_plain(found))
                    self.assertNotIn("True", repr(found))
                    self.assertNotIn("False", repr(found))


if __name__ == "__main__":
    unittest.main()
