"""Caps on the counts, and the books that join heaps within them."""

from barterheaps.books import place_in, trails
from barterheaps.exchanges import least_exchanges
from barterheaps.scales import sums_of


def piece_within(scale, book, caps, heap):
    """The ascending tuple of all heaps that are joined with the heap within the caps."""
    return tuple(sorted(trails(book, heap, caps)))


def joins_within(scale, book, caps):
    """Whether any two heaps of one lot that keep the caps are joined within them."""
    return apart_within(scale, book, caps) is None


def apart_within(scale, book, caps):
    """None if the book joins all heaps within the caps, otherwise two heaps of the first lot that it does not join."""
    lots = {}
    for heap in _heaps_within(caps):
        lots.setdefault(sums_of(scale, heap), []).append(heap)
    for sums in sorted(lots):
        heaps = lots[sums]
        reached = trails(book, heaps[0], caps)
        parted = [heap for heap in heaps if heap not in reached]
        if parted:
            return heaps[0], parted[0]
    return None


def _heaps_within(caps):
    """The ascending list of all heaps that keep the caps."""
    heaps = [()]
    for cap in caps:
        heaps = [heap + (count,) for heap in heaps for count in range(cap + 1)]
    return heaps


def joins_under_caps(scale, book):
    """Whether the book joins all heaps within all caps."""
    return apart_under_caps(scale, book) is None


def apart_under_caps(scale, book):
    """None if so, otherwise (take, put, caps) of the first least exchange that the book lacks."""
    for take, put in least_exchanges(scale):
        if place_in(book, (take, put)) is None:
            # Within these caps the lot has no other heaps but the two.
            return take, put, tuple([max(pair) for pair in zip(take, put)])
    return None
