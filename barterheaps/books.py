"""Books of exchanges: what they join, and the least ones that join all heaps."""

from barterheaps.bounds import MAX_BOOK
from barterheaps.errors import NotJoining, Unlike
from barterheaps.exchanges import changed, exchange_error, is_part
from barterheaps.groups import critical, critical_groups, tied
from barterheaps.scales import lot, sums_of


def book_error(scale, value):
    """None for a book that fits the scale, otherwise the pair (index, word) of the first fault."""
    if not isinstance(value, tuple) or len(value) > MAX_BOOK:
        return -1, "book"
    for index, item in enumerate(value):
        word = exchange_error(scale, item)
        if word is None and place_in(value[:index], item) is not None:
            word = "twice"
        if word is not None:
            return index, word
    return None


def place_in(book, exchange):
    """The index at which the exchange or its opposite stands in the book, None if neither does."""
    take, put = exchange
    for index, other in enumerate(book):
        if other == (take, put) or other == (put, take):
            return index
    return None


def piece(scale, book, heap):
    """The ascending tuple of all heaps that are joined with the heap; TooMany() for too great a lot."""
    lot(scale, sums_of(scale, heap))
    return tuple(sorted(trails(book, heap)))


def walk(scale, book, one, other):
    """The first of the walks with the fewest steps from one to other, None if there is none."""
    sums = sums_of(scale, one)
    if sums_of(scale, other) != sums:
        raise Unlike()
    lot(scale, sums)
    reached = trails(book, one)
    if other not in reached:
        return None
    steps = []
    heap = other
    while heap != one:
        heap, step = reached[heap]
        steps.append(step)
    steps.reverse()
    return tuple(steps)


def trails(book, start, caps=None):
    """A dict from each heap of the piece of start to the pair (heap before, step) by which it is reached.

    The steps are tried in ascending order from heaps that are reached in the order
    of their walks, so each trail is the first one of the shortest. With caps, only
    heaps that keep them are reached.
    """
    steps = steps_of(book)
    found = {start: None}
    level = [start]
    while level:
        further = []
        # Each further list is the next level, so the loop goes over a list of its own.
        for heap in list(level):
            for step, less, more in steps:
                if is_part(less, heap):
                    behind = changed(heap, less, more)
                    if behind not in found and (caps is None or is_part(behind, caps)):
                        found[behind] = (heap, step)
                        further.append(behind)
        level = further
    return found


def steps_of(book):
    """All steps in ascending order, as triples (step, what it takes out, what it puts in)."""
    found = []
    for index, (take, put) in enumerate(book):
        found.append(((index, -1), put, take))
        found.append(((index, 1), take, put))
    return found


def joins(scale, book):
    """Whether the book joins all heaps."""
    return _ties_all(scale, book, critical_groups(scale))


def _ties_all(scale, book, pairs):
    """Whether the book ties the groups of each of the pairs (sums, groups) together."""
    by_sums = {}
    for exchange in book:
        by_sums.setdefault(sums_of(scale, exchange[0]), []).append(exchange)
    return all([_ties(by_sums.get(sums, []), parts) for sums, parts in pairs])


def _ties(exchanges, parts):
    """Whether the exchanges, all of one lot, tie its groups together."""
    places = {heap: place for place, part in enumerate(parts) for heap in part}
    labels = list(range(len(parts)))
    for take, put in exchanges:
        labels = tied(labels, places[take], places[put])
    return labels.count(labels[0]) == len(labels)


def apart(scale, book):
    """None if the book joins all heaps, otherwise two heaps of the first critical lot that it does not join."""
    for sums, _ in critical_groups(scale):
        heaps = lot(scale, sums)
        reached = trails(book, heaps[0])
        parted = [heap for heap in heaps if heap not in reached]
        if parted:
            return heaps[0], parted[0]
    return None


def least_size(scale):
    """The number of exchanges of each least book."""
    return sum([many - 1 for _, many in critical(scale)])


def least_book(scale):
    """A book of least size that joins all heaps, from the first heaps of the groups."""
    pairs = critical_groups(scale)
    return tuple([(part[0], parts[0][0]) for _, parts in pairs for part in parts[1:]])


def needed(scale):
    """The ascending tuple of the exchanges that stand in each book that joins all heaps."""
    # Where there are more than two heaps, the groups can be tied in another way.
    twos = [parts for _, parts in critical_groups(scale) if [len(part) for part in parts] == [1, 1]]
    return tuple(sorted([(parts[1][0], parts[0][0]) for parts in twos]))


def needless(scale, book):
    """The ascending tuple of the indexes of the exchanges that can each be left out; NotJoining()."""
    pairs = critical_groups(scale)
    if not _ties_all(scale, book, pairs):
        raise NotJoining()
    return tuple([index for index in range(len(book)) if _ties_all(scale, _without(book, index), pairs)])


def _without(book, index):
    """The book without the exchange with this index."""
    return book[:index] + book[index + 1:]


def is_least(scale, book):
    """Whether the book joins all heaps and nothing can be left out of it."""
    return joins(scale, book) and needless(scale, book) == ()
