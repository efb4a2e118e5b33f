"""Prices, the cheapest heaps, and the books that lead down to them."""

from barterheaps.books import steps_of
from barterheaps.exchanges import changed, is_part, least_exchanges
from barterheaps.integers import dot, is_integer
from barterheaps.scales import lot, sums_of

_TOO_DEAR = 10 ** 30


def is_price_row(scale, value):
    """Whether the value is a price row of the scale."""
    if not isinstance(value, tuple) or len(value) != len(scale[0]):
        return False
    return all([is_integer(price) and abs(price) < _TOO_DEAR for price in value])


def cost(prices, heap):
    """The sum of price times count over all kinds."""
    return dot(prices, heap)


def _rank(prices, heap):
    """What is less for the cheaper one of two heaps of a lot."""
    return cost(prices, heap), heap


def cheapest(scale, prices, sums):
    """The cheapest heap of the lot, None if the lot is empty; TooMany() as lot."""
    heaps = lot(scale, sums)
    if not heaps:
        return None
    return min([_rank(prices, heap) for heap in heaps])[1]


def lowering_book(scale, prices):
    """The ascending tuple of the exchanges that take a least heap that is not cheapest, and put the cheapest."""
    return lowering_among(least_exchanges(scale), prices)


def lowering_among(least, prices):
    """The lowering book for the prices; least are all least exchanges of the scale.

    Each take and its put are a least exchange: with a kind in both, take with one
    less of it would not be the cheapest; and of a lesser exchange within them the
    dearer side would be part of take and not the cheapest, or part of put, so that
    put could be made cheaper.
    """
    puts = {}
    for exchange in least:
        take, put = _downward(prices, exchange)
        if take not in puts or _rank(prices, put) < _rank(prices, puts[take]):
            puts[take] = put
    takes = sorted(puts)
    return tuple([(take, puts[take]) for take in takes if not _holds_another(take, takes)])


def _downward(prices, exchange):
    """The exchange, so or as its opposite, with the cheaper heap as put."""
    take, put = exchange
    if _rank(prices, take) < _rank(prices, put):
        return put, take
    return take, put


def _holds_another(heap, heaps):
    """Whether one of the heaps, other than this one, is part of it."""
    return any([is_part(other, heap) and other != heap for other in heaps])


def lowers(scale, prices, book):
    """Whether the book lowers all heaps."""
    return stuck(scale, prices, book) is None


def stuck(scale, prices, book):
    """None if the book lowers all heaps, otherwise the first take of the lowering book that it does not lower."""
    steps = _lowering_steps(prices, book)
    for take, _ in lowering_book(scale, prices):
        if _first_fit(steps, take) is None:
            return take
    return None


def _lowering_steps(prices, book):
    """The steps that lead to cheaper heaps, ascending, as triples (step, what it takes out, what it puts in)."""
    # Whether a step lowers depends only on what it changes, not on the heap that it goes from.
    return [triple for triple in steps_of(book) if _rank(prices, triple[2]) < _rank(prices, triple[1])]


def _first_fit(steps, heap):
    """The first of the triples (step, less, more) that can go from the heap, None if there is none."""
    for step, less, more in steps:
        if is_part(less, heap):
            return step, less, more
    return None


def way_down(scale, prices, book, heap):
    """The pair (walk, end) of always the first step that lowers the heap reached; TooMany() as piece."""
    lot(scale, sums_of(scale, heap))
    steps = _lowering_steps(prices, book)
    done = []
    end = heap
    fit = _first_fit(steps, end)
    while fit is not None:
        step, less, more = fit
        done.append(step)
        end = changed(end, less, more)
        fit = _first_fit(steps, end)
    return tuple(done), end


def parted_prices(scale, one, other):
    """None if both prices have the same cheapest heaps, otherwise the first take of other's that one has cheapest."""
    least = least_exchanges(scale)
    dear = [take for take, _ in lowering_among(least, one)]
    for take, _ in lowering_among(least, other):
        # A heap is the cheapest of its lot just if it holds no take.
        if not any([is_part(low, take) for low in dear]):
            return take
    return None
