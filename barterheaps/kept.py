"""What books keep: rows that have the same sum for take and put of each exchange."""

from barterheaps.integers import plain_rows, rows_across
from barterheaps.scales import sums_of


def is_kept(book, row):
    """Whether the row is kept by the book."""
    return all([sums_of((row,), take) == sums_of((row,), put) for take, put in book])


def kept(book, kinds):
    """The plain rows of all rows, with a number for each of so many kinds, that are kept by the book."""
    gains = [tuple([more - less for less, more in zip(take, put)]) for take, put in book]
    return rows_across(gains, kinds)


def plain(scale):
    """The plain rows of all sums of rational multiples of the scale's rows."""
    return plain_rows(scale)


def is_tight(scale, book):
    """Whether the book keeps only what the scale's rows keep."""
    return kept(book, len(scale[0])) == plain(scale)
