"""Counted lots: how many heaps there are of great sums, and which is which.

Each count is told as a number of rounds and a rest: all things of one round
together weigh the same for each kind, and the rest is less than a round. So for
each sum of rests the heaps are just the ways to share so many rounds out.
"""

from math import comb, lcm

from barterheaps.errors import NoHeap
from barterheaps.integers import is_integer
from barterheaps.scales import sums_of


def many_heaps(scale, sums):
    """How many heaps the lot has."""
    return _many(_rest_tables(scale)[0], sums[0])


def heap_at(scale, sums, value):
    """The heap with this number in the ascending order of the lot; NoHeap()."""
    tables = _rest_tables(scale)
    if not is_integer(value) or not 0 <= value < _many(tables[0], sums[0]):
        raise NoHeap()
    number = value
    left = sums[0]
    heap = []
    for weight, table in zip(scale[0], tables):
        count = _count_at(table, weight, left, number)
        number -= _many_below(table, weight, left, count)
        left -= weight * count
        heap.append(count)
    return tuple(heap)


def number_of(scale, heap):
    """The number of the heap in the ascending order of its lot."""
    number = 0
    left = sums_of(scale, heap)[0]
    for weight, table, count in zip(scale[0], _rest_tables(scale), heap):
        number += _many_below(table, weight, left, count)
        left -= weight * count
    return number


def even_heap(scale, sums, value):
    """The heap whose number is the rest of the value by the number of heaps; NoHeap()."""
    many = many_heaps(scale, sums)
    if not is_integer(value) or value < 0 or many == 0:
        raise NoHeap()
    return heap_at(scale, sums, value % many)


def _rest_tables(scale):
    """For each kind the triple (kinds, round, ways) of the kinds from it on.

    round is what each round weighs, and ways tells for each sum of rests how many
    rows of rests there are with this sum.
    """
    weights = scale[0]
    around = 1
    for weight in weights:
        around = lcm(around, weight)
    tables = []
    ways = [1]
    for weight in reversed(weights):
        ways = _with_rests(ways, weight, around)
        tables.append((len(tables) + 1, around, ways))
    tables.reverse()
    return tables


def _with_rests(ways, weight, around):
    """The ways with one kind of this weight more."""
    found = [0] * (len(ways) + around - weight)
    for rest in range(0, around, weight):
        for told, many in enumerate(ways):
            found[told + rest] += many
    return found


def _many(table, told):
    """How many heaps of the table's kinds have this sum."""
    kinds, around, ways = table
    found = 0
    for rest in range(told % around, len(ways), around):
        if rest <= told:
            rounds = (told - rest) // around
            found += ways[rest] * comb(rounds + kinds - 1, kinds - 1)
    return found


def _many_below(table, weight, told, count):
    """How many heaps with this sum have less than this count of the first of the table's kinds."""
    # The others are those with so many things more than the heaps of a lesser sum.
    return _many(table, told) - _many(table, told - weight * count)


def _count_at(table, weight, told, number):
    """The count of the first of the table's kinds in the heap with this number, found by halving."""
    low = 0
    high = told // weight
    while low < high:
        middle = (low + high + 1) // 2
        if _many_below(table, weight, told, middle) <= number:
            low = middle
        else:
            high = middle - 1
    return low
