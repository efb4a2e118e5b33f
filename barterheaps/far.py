"""Walks between very great heaps, told in a few words."""

from barterheaps.errors import Unlike
from barterheaps.exchanges import bare, changed, forth, least_exchanges
from barterheaps.scales import sums_of


def far_walk(scale, one, other):
    """An ascending tuple of pairs (exchange, times) that lead from one to other in any order; Unlike()."""
    if sums_of(scale, one) != sums_of(scale, other):
        raise Unlike()
    nothing = (0,) * len(one)
    # What is left always holds a least exchange. One that has gone as often as it
    # can is not held again, since what is left only becomes less.
    less, more = bare((one, other))
    found = []
    for pair in least_exchanges(scale):
        for take, put in (pair, pair[::-1]):
            times = min(_times_in(take, less), _times_in(put, more))
            if times > 0:
                less = changed(less, _multiple(take, times), nothing)
                more = changed(more, _multiple(put, times), nothing)
                found.append(((take, put), times))
    return tuple(sorted(found))


def _times_in(part, heap):
    """How often the part, which is not of nothing, can be taken out of the heap."""
    return min([count // less for less, count in zip(part, heap) if less > 0])


def _multiple(heap, times):
    """The heap so many times."""
    return tuple([times * count for count in heap])


def far_heap(heap, steps):
    """The heap behind the pairs (exchange, times), one after another; Short(kind)."""
    reached = heap
    for (take, put), times in steps:
        reached = forth((_multiple(take, times), _multiple(put, times)), reached)
    return reached
