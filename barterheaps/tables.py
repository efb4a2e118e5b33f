"""Tables, whose scales keep the sums of rows and columns."""

from barterheaps.bounds import MAX_KINDS
from barterheaps.errors import BadBars
from barterheaps.integers import is_integer


def cells(rows, columns, value):
    """The ascending tuple of the cells that the value does not bar; BadBars()."""
    every = [(row, column) for row in range(rows) for column in range(columns)]
    if not _are_cells(every, value):
        raise BadBars()
    left = [cell for cell in every if cell not in value]
    if not 1 <= len(left) <= MAX_KINDS:
        raise BadBars()
    return tuple(left)


def _are_cells(every, value):
    """Whether the value is a tuple of cells among these, none twice."""
    if not isinstance(value, tuple) or not all([_is_cell(every, item) for item in value]):
        return False
    return len(set(value)) == len(value)


def _is_cell(every, value):
    """Whether the value is one of the cells; pairs with True or False are none."""
    return isinstance(value, tuple) and all([is_integer(place) for place in value]) and value in every


def table_scale(rows, columns, value):
    """The scale of the sums of the table's rows, then of its columns; BadBars() as cells."""
    kinds = cells(rows, columns, value)
    along = [tuple([int(cell[0] == row) for cell in kinds]) for row in range(rows)]
    down = [tuple([int(cell[1] == column) for cell in kinds]) for column in range(columns)]
    return tuple(along + down)


def table_book(rows, columns, value):
    """The book of all exchanges of four cells, rows ahead of columns in their order; BadBars() as cells."""
    kinds = cells(rows, columns, value)
    found = []
    for upper, lower in _rising_pairs(rows):
        for left, right in _rising_pairs(columns):
            take = ((upper, left), (lower, right))
            put = ((upper, right), (lower, left))
            if all([cell in kinds for cell in take + put]):
                found.append((_heap_of(kinds, take), _heap_of(kinds, put)))
    return tuple(found)


def _rising_pairs(many):
    """The ascending list of all pairs of numbers below many, the first less than the second."""
    return [(one, other) for one in range(many) for other in range(one + 1, many)]


def _heap_of(kinds, chosen):
    """The heap with one of each of the chosen cells."""
    return tuple([int(cell in chosen) for cell in kinds])
