"""The errors that the package raises."""


class BarterError(ValueError):
    """Stands above all other errors of the package."""


class BadScale(BarterError):
    """A value is no scale; word tells why."""

    def __init__(self, word):
        self.word = word


class BadBook(BarterError):
    """A value is no book that fits the scale; index and word tell where and why."""

    def __init__(self, index, word):
        self.index = index
        self.word = word


class BadExchange(BarterError):
    """A value is no exchange that fits the scale; word tells why."""

    def __init__(self, word):
        self.word = word


class BadBars(BarterError):
    """A value tells no barred cells of the table."""


class BadText(BarterError):
    """A value is not the text of a book; place tells from where on."""

    def __init__(self, place):
        self.place = place


class BadPrices(BarterError):
    """A value is no price row of the scale."""


class Short(BarterError):
    """A heap has too few of the kind."""

    def __init__(self, kind):
        self.kind = kind


class Unlike(BarterError):
    """Two heaps have unlike sums."""


class TooMany(BarterError):
    """A lot has more heaps than are told."""


class TooFree(BarterError):
    """The free number of a scale is too great."""


class NoHeap(BarterError):
    """No heap of the lot has this number."""


class NotJoining(BarterError):
    """A book does not join all heaps."""


class NoExchange(BarterError):
    """No exchange of the book has this index."""


class Twice(BarterError):
    """An exchange or its opposite stands at the index already."""

    def __init__(self, index):
        self.index = index


class Full(BarterError):
    """A book has as many exchanges as it can have."""


class NothingToUndo(BarterError):
    """There is no deed that could be taken back."""
