"""Values of all kinds, and plain slow answers to compare with."""

from fractions import Fraction
from itertools import product

# Values that are no tuple and no integer, or look like one.
OTHERS = (None, True, False, 0, 1, -1, 10 ** 39, "", "1", "scale", [], [1], [[1]], {}, {1: 1}, {(1,): "a"})


def is_plain(value):
    """Whether the value is of tuples, integers, strings, True, False and None throughout."""
    if type(value) is tuple:
        return all(is_plain(item) for item in value)
    return value is None or type(value) in (int, str, bool)


def slow_rank(rows):
    """The rank of the rows, by fractions."""
    rest = [[Fraction(number) for number in row] for row in rows]
    rank = 0
    for place in range(len(rows[0])):
        pivots = [row for row in rest if row[place] != 0]
        if pivots:
            rank += 1
            pivot = pivots[0]
            rest.remove(pivot)
            rest = [[a - b * row[place] / pivot[place] for a, b in zip(row, pivot)] for row in rest]
    return rank


def slow_sums(scale, heap):
    """The sums of the heap, by going through rows and kinds."""
    sums = []
    for row in scale:
        total = 0
        for kind in range(len(row)):
            total += row[kind] * heap[kind]
        sums.append(total)
    return tuple(sums)


def slow_lots(scale, most):
    """A dict from sums to the ascending lists of their heaps, complete for sums up to most."""
    lots = {}
    for heap in product(range(most + 1), repeat=len(scale[0])):
        lots.setdefault(slow_sums(scale, heap), []).append(heap)
    return {sums: heaps for sums, heaps in lots.items() if max(sums) <= most}


def slow_lot(scale, sums):
    """The heaps with these sums, by trying all counts that what is left of the sums allows."""
    heaps = [()]
    for kind in range(len(scale[0])):
        longer = []
        for heap in heaps:
            left = [told - slow_sums((row,), heap)[0] for row, told in zip(cut(scale, len(heap)), sums)]
            most = min(rest // row[kind] for row, rest in zip(scale, left) if row[kind])
            longer += [heap + (count,) for count in range(most + 1)]
        heaps = longer
    return tuple(heap for heap in heaps if slow_sums(scale, heap) == sums)


def cut(scale, kinds):
    """The rows of the first kinds only."""
    return [row[:kinds] for row in scale]
