"""Values of all kinds, and plain slow answers to compare with."""

from fractions import Fraction
from itertools import product
from random import Random

# Values that are no tuple and no integer, or look like one.
OTHERS = (None, True, False, 0, 1, -1, 10 ** 39, "", "1", "scale", [], [1], [[1]], {}, {1: 1}, {(1,): "a"})

SINGLE_SCALES = tuple((row,) for kinds in range(1, 5) for row in product(range(1, 7), repeat=kinds))

TABLE = ((1, 1, 0, 0), (0, 0, 1, 1), (1, 0, 1, 0), (0, 1, 0, 1))
WIDE_TABLE = ((1, 1, 1, 0, 0, 0), (0, 0, 0, 1, 1, 1), (1, 0, 0, 1, 0, 0), (0, 1, 0, 0, 1, 0), (0, 0, 1, 0, 0, 1))
TRIANGLE = ((1, 1, 0), (0, 1, 1), (1, 0, 1))
TWIN_TRIANGLE = ((1, 0, 1, 1, 0, 1), (1, 1, 0, 1, 1, 0), (0, 1, 1, 0, 1, 1))
SLACK_TRIANGLE = ((1, 0, 1, 1, 0, 0), (1, 1, 0, 0, 1, 0), (0, 1, 1, 0, 0, 1))
# The sum of the first three rows is twice the last one.
HALVES = ((1, 1, 0, 1, 0, 0), (0, 1, 1, 0, 1, 0), (1, 0, 1, 1, 1, 0), (1, 1, 1, 1, 1, 0), (0, 0, 0, 0, 0, 1))

SCALES = (
    ((1,),), ((6,),), ((2, 3, 4),), ((1, 1, 1, 1),), ((6, 6, 6, 6),), ((6, 5, 4, 3),), ((6, 4),),
    ((1,), (1,)), ((1,), (0,)), ((1, 1), (1, 1)), ((1, 0), (0, 1)), ((1, 1, 1, 1), (1, 1, 1, 1)),
    ((1, 1, 1, 1, 0), (0, 0, 0, 0, 1)), TABLE, WIDE_TABLE, TRIANGLE, TWIN_TRIANGLE, SLACK_TRIANGLE, HALVES,
    TRIANGLE + ((1, 1, 1),), ((0, 0), (1, 1)), ((1,) * 6, (1, 0) * 3, (1, 1, 0) * 2, (0, 1, 1) * 2),
    tuple(tuple(int(at == kind) for kind in range(6)) for at in range(6)),
)

# In these a count can follow from twice another one, or from half of one.
KNOTTED = (
    ((1, 1, 1, 0, 0), (0, 0, 1, 1, 1), (0, 1, 0, 1, 0), (1, 0, 0, 1, 0)),
    ((0, 0, 0, 1, 0), (1, 0, 1, 0, 0), (1, 0, 0, 0, 1), (0, 1, 1, 0, 1)),
    ((0, 0, 1, 1, 1), (1, 1, 1, 0, 1), (0, 1, 1, 1, 0)),
    ((1, 0, 1, 0, 1, 1), (0, 0, 1, 1, 1, 0), (0, 1, 0, 0, 0, 0), (1, 1, 0, 1, 0, 0), (0, 1, 1, 0, 0, 1)),
)


def is_plain(value):
    """Whether the value is of tuples, integers, strings, True, False and None throughout."""
    if type(value) is tuple:
        return all(is_plain(item) for item in value)
    return value is None or type(value) in (int, str, bool)


def slow_rank(rows):
    """The rank of the rows, by fractions."""
    rest = [[Fraction(number) for number in row] for row in rows]
    rank = 0
    for place in range(len(rows[0])):
        pivots = [row for row in rest if row[place] != 0]
        if pivots:
            rank += 1
            pivot = pivots[0]
            rest.remove(pivot)
            rest = [[a - b * row[place] / pivot[place] for a, b in zip(row, pivot)] for row in rest]
    return rank


def slow_sums(scale, heap):
    """The sums of the heap, by going through rows and kinds."""
    sums = []
    for row in scale:
        total = 0
        for kind in range(len(row)):
            total += row[kind] * heap[kind]
        sums.append(total)
    return tuple(sums)


def slow_lots(scale, most):
    """A dict from sums to the ascending lists of their heaps, complete for sums up to most."""
    lots = {}
    for heap in product(range(most + 1), repeat=len(scale[0])):
        lots.setdefault(slow_sums(scale, heap), []).append(heap)
    return {sums: heaps for sums, heaps in lots.items() if max(sums) <= most}


def slow_lot(scale, sums):
    """The heaps with these sums, by trying all counts that what is left of the sums allows."""
    heaps = [()]
    for kind in range(len(scale[0])):
        longer = []
        for heap in heaps:
            left = [told - slow_sums((row,), heap)[0] for row, told in zip(cut(scale, len(heap)), sums)]
            most = min(rest // row[kind] for row, rest in zip(scale, left) if row[kind])
            longer += [heap + (count,) for count in range(most + 1)]
        heaps = longer
    return tuple(heap for heap in heaps if slow_sums(scale, heap) == sums)


def cut(scale, kinds):
    """The rows of the first kinds only."""
    return [row[:kinds] for row in scale]


def slow_changes(scale, most):
    """All rows other than 0 with numbers from -most to most and sums 0, met in the middle."""
    half = len(scale[0]) // 2
    ahead = {}
    for row in product(range(-most, most + 1), repeat=half):
        ahead.setdefault(slow_sums(cut(scale, half), row), []).append(row)
    found = []
    for row in product(range(-most, most + 1), repeat=len(scale[0]) - half):
        sums = slow_sums([weights[half:] for weights in scale], row)
        found += [other + row for other in ahead.get(tuple(-told for told in sums), ())]
    return [row for row in found if any(row)]


def slow_least_exchanges(scale):
    """The least exchanges, as those rows of sums 0 that no lesser one is part of.

    No count in a least exchange is above 6: in one row no more things are taken
    than the greatest weight put, and else each is at most the sum of as many
    exchanges of least support as the free number tells, each less than once if
    there are several; their counts are at most 2, 3 and 5 with 3, 2 and 1 free.
    """
    least = []
    for row in sorted(slow_changes(scale, 6), key=lambda row: sum(abs(number) for number in row)):
        if not any(is_slow_part(other, row) for other in least):
            least += [row, tuple(-number for number in row)]
    pairs = [
        (tuple(max(number, 0) for number in row), tuple(max(-number, 0) for number in row)) for row in least
    ]
    return tuple(sorted(pair for pair in pairs if pair[0] > pair[1]))


def is_slow_part(part, row):
    """Whether each number of the part is between 0 and that of the row."""
    return all(0 <= small <= great or great <= small <= 0 for small, great in zip(part, row))


def slow_groups(heaps):
    """The groups of ascending heaps, by going from heap to heap."""
    found = []
    rest = list(heaps)
    while rest:
        group = [rest.pop(0)]
        for heap in group:
            akin = [other for other in rest if any(one and two for one, two in zip(heap, other))]
            group += akin
            rest = [other for other in rest if other not in akin]
        found.append(tuple(sorted(group)))
    return tuple(found)


def slow_edges(heaps, book):
    """The triples (heap, step, heap behind) of all steps in the lot, in order."""
    places = set(heaps)
    edges = [edge for heap in heaps for edge in slow_edges_of(heap, book)]
    assert all(behind in places for _, _, behind in edges)
    return edges


def slow_pieces(heaps, book):
    """A dict from each heap of a lot to the ascending tuple of its piece, by labels."""
    labels = {heap: heap for heap in heaps}
    for heap, _, behind in slow_edges(heaps, book):
        one, other = labels[heap], labels[behind]
        if one != other:
            labels = {key: one if label == other else label for key, label in labels.items()}
    pieces = {}
    for heap in sorted(heaps):
        pieces.setdefault(labels[heap], []).append(heap)
    return {heap: tuple(pieces[labels[heap]]) for heap in heaps}


def slow_walk(heaps, book, one, other):
    """The first of the walks with the fewest steps, by the distances to its end."""
    edges = slow_edges(heaps, book)
    far = {other: 0}
    grown = True
    while grown:
        fresh = {heap: far[behind] + 1 for heap, _, behind in edges if behind in far and heap not in far}
        grown = bool(fresh)
        far.update(fresh)
    if one not in far:
        return None
    steps, heap = [], one
    while heap != other:
        nearer = [(step, behind) for start, step, behind in edges if start == heap and far[behind] < far[heap]]
        step, heap = min(nearer)
        steps.append(step)
    return tuple(steps)


def slow_apart(lots, book):
    """None if all the lots are joined, otherwise the pair of the first lot that is not."""
    for sums in sorted(lots):
        joined = slow_pieces(lots[sums], book)[lots[sums][0]]
        parted = [heap for heap in lots[sums] if heap not in joined]
        if parted:
            return lots[sums][0], parted[0]
    return None


def random_scales(many, seed):
    """So many different scales of 2 to 6 rows and 3 to 6 kinds, always the same for the same seed."""
    chance = Random(seed)
    found = []
    while len(found) < many:
        kinds = chance.randint(3, 6)
        rows = tuple(tuple(chance.randint(0, 1) for _ in range(kinds)) for _ in range(chance.randint(2, 6)))
        if all(any(column) for column in zip(*rows)) and kinds - slow_rank(rows) <= 3 and rows not in found:
            found.append(rows)
    return found


def bounded_lots(scale, most):
    """A dict from sums to the ascending lists of all their heaps, for all sums of at most most in each row."""
    heaps = [()]
    for kind in range(len(scale[0])):
        longer = []
        for heap in heaps:
            used = slow_sums(cut(scale, kind), heap)
            free = [(most - told) // row[kind] for row, told in zip(scale, used) if row[kind]]
            longer += [heap + (count,) for count in range(min(free) + 1)]
        heaps = longer
    lots = {}
    for heap in heaps:
        lots.setdefault(slow_sums(scale, heap), []).append(heap)
    return lots


def slow_cost(prices, heap):
    """The cost, thing by thing."""
    total = 0
    for price, count in zip(prices, heap):
        for _ in range(count):
            total += price
    return total


def slow_cheapest(heaps, prices):
    """The cheapest of ascending heaps of one lot: the first one of the least cost."""
    costs = [slow_cost(prices, heap) for heap in heaps]
    return heaps[costs.index(min(costs))]


def slow_lowering_book(lots, prices):
    """The lowering book as the document tells it, of the takes in these lots."""
    best = {sums: slow_cheapest(heaps, prices) for sums, heaps in lots.items()}
    cheap = set(best.values())
    found = []
    for sums, heaps in lots.items():
        for heap in heaps:
            if heap not in cheap and all(less in cheap for less in one_less(heap)):
                found.append((heap, best[sums]))
    return tuple(sorted(found))


def one_less(heap):
    """The heaps that are left when one thing is taken out."""
    return [heap[:kind] + (count - 1,) + heap[kind + 1:] for kind, count in enumerate(heap) if count]


def slow_lowered(heap, prices, book):
    """The steps of the book that lead from the heap to a cheaper one, each with the heap behind it, ascending."""
    found = []
    for _, step, behind in slow_edges_of(heap, book):
        if (slow_cost(prices, behind), behind) < (slow_cost(prices, heap), heap):
            found.append((step, behind))
    return found


def slow_edges_of(heap, book):
    """The triples (heap, step, heap behind) from this heap, in order."""
    edges = []
    for index, pair in enumerate(book):
        for way, (less, more) in ((-1, pair[::-1]), (1, pair)):
            left = [count - out for count, out in zip(heap, less)]
            if min(left) >= 0:
                edges.append((heap, (index, way), tuple(count + into for count, into in zip(left, more))))
    return edges


def some_prices(scale, many, seed):
    """Price rows of all sizes for the scale: all 0, with ties, below 0, great ones, and shifted by its rows."""
    chance = Random(seed)
    kinds = len(scale[0])
    found = [(0,) * kinds, (1,) * kinds, (-1,) * kinds, (10 ** 30 - 1,) * kinds, scale[0]]
    for size in (1, 2, 9, 10 ** 30 - 1) * many:
        prices = tuple(chance.randint(-size, size) for _ in range(kinds))
        found.append(prices)
        times = [chance.randint(-5, 5) for _ in scale]
        shift = [sum(time * weight for time, weight in zip(times, column)) for column in zip(*scale)]
        if size < 10:
            found.append(tuple(price + more for price, more in zip(prices, shift)))
    return found


def greatest_sum(scale):
    """The greatest sum of a least exchange."""
    return max([max(slow_sums(scale, take)) for take, _ in slow_least_exchanges(scale)], default=0)


def slow_dot(one, other):
    """The sum of the products of the numbers in the same places."""
    total = 0
    for place in range(len(one)):
        total += one[place] * other[place]
    return total
