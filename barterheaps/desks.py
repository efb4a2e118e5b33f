"""Desks: books that can be changed, and changed back."""

from barterheaps.books import apart, book_error, joins, place_in, walk
from barterheaps.bounds import MAX_BOOK
from barterheaps.costs import is_price_row, lowers, stuck
from barterheaps.errors import (
    BadBook, BadExchange, BadPrices, BadScale, Full, NoExchange, NothingToUndo, Twice,
)
from barterheaps.exchanges import exchange_error
from barterheaps.integers import is_integer
from barterheaps.scales import scale_error


class Desk:
    """A scale and a book that fits it, with the deeds that changed the book."""

    def __init__(self, scale, book=()):
        word = scale_error(scale)
        if word is not None:
            raise BadScale(word)
        wrong = book_error(scale, book)
        if wrong is not None:
            raise BadBook(wrong[0], wrong[1])
        self._scale = scale
        self._book = book
        # Pairs (deed, book ahead of it).
        self._past = []

    @property
    def scale(self):
        """The scale."""
        return self._scale

    @property
    def book(self):
        """The present book."""
        return self._book

    @property
    def deeds(self):
        """The tuple of the deeds that are not taken back, in order."""
        return tuple([deed for deed, _ in self._past])

    def __len__(self):
        return len(self._book)

    def __contains__(self, value):
        if exchange_error(self._scale, value) is not None:
            return False
        return place_in(self._book, value) is not None

    def __eq__(self, other):
        return isinstance(other, Desk) and self._scale == other._scale and self._book == other._book

    def __iter__(self):
        # Deeds give the desk another tuple, so a loop keeps the one that it began with.
        return iter(self._book)

    def put(self, value):
        """Puts the exchange behind the others; BadExchange(word), Twice(index), Full()."""
        word = exchange_error(self._scale, value)
        if word is not None:
            raise BadExchange(word)
        index = place_in(self._book, value)
        if index is not None:
            raise Twice(index)
        if len(self._book) >= MAX_BOOK:
            raise Full()
        return self._done(("put", value), self._book + (value,))

    def drop(self, value):
        """Takes out the exchange with this index; NoExchange()."""
        if not self._is_index(value):
            raise NoExchange()
        left = self._book[:value] + self._book[value + 1:]
        return self._done(("drop", value, self._book[value]), left)

    def turn(self, value):
        """Puts the opposite in the place of the exchange with this index; NoExchange()."""
        if not self._is_index(value):
            raise NoExchange()
        take, put = self._book[value]
        return self._done(("turn", value), self._book[:value] + ((put, take),) + self._book[value + 1:])

    def undo(self):
        """Takes back the last deed that is not taken back yet; NothingToUndo()."""
        if not self._past:
            raise NothingToUndo()
        self._book = self._past.pop()[1]
        return len(self._book)

    def _is_index(self, value):
        """Whether the value is the index of an exchange of the present book."""
        return is_integer(value) and 0 <= value < len(self._book)

    def _done(self, deed, book):
        """Notes the deed, takes the book as the present one, and tells the number of its exchanges."""
        self._past.append((deed, self._book))
        self._book = book
        return len(book)

    def joins(self):
        """Whether the present book joins all heaps."""
        return joins(self._scale, self._book)

    def apart(self):
        """None if it does, otherwise two heaps of the first critical lot that it does not join."""
        return apart(self._scale, self._book)

    def walk(self, one, other, *, most=None):
        """The first shortest walk from one to other, None if there is none of at most so many steps."""
        found = walk(self._scale, self._book, one, other)
        if found is None or most is None or len(found) <= most:
            return found
        return None

    def lowers(self, value):
        """Whether the present book lowers all heaps for these prices; BadPrices()."""
        if not is_price_row(self._scale, value):
            raise BadPrices()
        return lowers(self._scale, value, self._book)

    def stuck(self, value):
        """None if it does, otherwise the first take that it does not lower; BadPrices()."""
        if not is_price_row(self._scale, value):
            raise BadPrices()
        return stuck(self._scale, value, self._book)

    def copy(self):
        """An equal desk without deeds."""
        return Desk(self._scale, self._book)
