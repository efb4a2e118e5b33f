"""Exchanges, what they lead to, and the least of them."""

from math import lcm

from barterheaps.errors import Short
from barterheaps.integers import dot, square_rows
from barterheaps.scales import is_heap, sums_of


def exchange_error(scale, value):
    """None for an exchange that fits the scale, otherwise the first word that tells what is wrong."""
    if not isinstance(value, tuple) or len(value) != 2:
        return "exchange"
    take, put = value
    if not is_heap(scale, take) or not is_heap(scale, put):
        return "heap"
    if take == put:
        return "same"
    if sums_of(scale, take) != sums_of(scale, put):
        return "sums"
    return None


def forth(exchange, heap):
    """The heap with take taken out and put put in; Short(kind) if it has too little."""
    take, put = exchange
    return _behind(heap, take, put)


def back(exchange, heap):
    """The heap with put taken out and take put in; Short(kind) if it has too little."""
    take, put = exchange
    return _behind(heap, put, take)


def _behind(heap, less, more):
    """The heap without less and with more."""
    for kind, count in enumerate(less):
        if heap[kind] < count:
            raise Short(kind)
    return changed(heap, less, more)


def changed(heap, less, more):
    """The counts of the heap, less taken off and more added."""
    return tuple([count - off + on for count, off, on in zip(heap, less, more)])


def is_part(part, heap):
    """Whether the heap has of each kind at least as much as the part."""
    return all([less <= count for less, count in zip(part, heap)])


def bare(exchange):
    """The exchange without what is in both take and put."""
    take, put = exchange
    both = [min(less, more) for less, more in zip(take, put)]
    nothing = [0] * len(both)
    return changed(take, both, nothing), changed(put, both, nothing)


def is_within(one, other):
    """Whether the exchange one is within the other, so or as its opposite."""
    take, put = one
    straight = is_part(take, other[0]) and is_part(put, other[1])
    return straight or (is_part(take, other[1]) and is_part(put, other[0]))


def least_exchanges(scale):
    """The ascending tuple of all least exchanges (take, put) with take greater than put."""
    pulls = _pulls(scale)
    found = []
    for first in reversed(range(len(pulls))):
        found = _with_first(first, pulls, found)
    return tuple(sorted(found))


def _pulls(scale):
    """For each kind, what one more of it in take adds to the pull of an exchange.

    The pull is a multiple of the part of take less put that stands at right angles
    to all rows of sums 0. It is 0 just if the sums of take and put are the same.
    """
    rows = square_rows(scale)
    scaling = 1
    for row in rows:
        scaling = lcm(scaling, dot(row, row))
    pulls = []
    for kind in range(len(scale[0])):
        pull = [0] * len(scale[0])
        for row in rows:
            share = scaling // dot(row, row) * row[kind]
            pull = [old + share * weight for old, weight in zip(pull, row)]
        pulls.append(tuple(pull))
    return pulls


def _with_first(first, pulls, known):
    """The known exchanges and the least ones with the first kind in take and no kind before it.

    Known are the least exchanges of the kinds behind the first one. What is not yet
    balanced grows by one thing at a time, always against its pull: within each
    exchange some such thing leads on from each part of it, since the pull of the
    part and the pull of the rest are opposite. So no least exchange is missed.
    """
    found = list(known)
    nothing = (0,) * len(pulls)
    level = {(_one_more(nothing, first), nothing): pulls[first]}
    while level:
        found.extend([exchange for exchange, pull in level.items() if not any(pull)])
        level = _grown(level, first, pulls, found)
    return found


def _one_more(heap, kind):
    """The heap with one more of the kind."""
    return heap[:kind] + (heap[kind] + 1,) + heap[kind + 1:]


def _grown(level, first, pulls, found):
    """All bare pairs with one thing more against the pull, and their pulls, but those that hold a found one."""
    further = {}
    for (take, put), pull in level.items():
        for kind in range(first, len(pull)):
            if pull[kind] < 0 and put[kind] == 0:
                larger, way = (_one_more(take, kind), put), 1
            elif pull[kind] > 0 and take[kind] == 0:
                larger, way = (take, _one_more(put, kind)), -1
            else:
                continue
            if larger not in further and not _holds_one(larger, found):
                further[larger] = tuple([old + way * new for old, new in zip(pull, pulls[kind])])
    return further


def _holds_one(pair, exchanges):
    """Whether one of the exchanges is within the pair."""
    for exchange in exchanges:
        if is_within(exchange, pair):
            return True
    return False
