"""Scales, heaps, their sums and lots."""

from math import lcm

from barterheaps.bounds import MAX_COUNT, MAX_FREE, MAX_KINDS, MAX_LOT, MAX_ROWS, MAX_SINGLE, MAX_WEIGHT
from barterheaps.errors import TooMany
from barterheaps.integers import first_place, is_integer, plain_rows, span, value_of, without_last


def scale_error(value):
    """None for a scale, otherwise the first word that tells what is wrong."""
    if not _is_filled_tuple(value, MAX_ROWS):
        return "scale"
    if not all([_is_filled_tuple(row, MAX_KINDS) for row in value]):
        return "row"
    if not _has_fit_lengths(value):
        return "length"
    if not _has_fit_weights(value):
        return "weight"
    if not all([any([row[kind] > 0 for row in value]) for kind in range(len(value[0]))]):
        return "kind"
    if free(value) > MAX_FREE:
        return "free"
    return None


def _is_filled_tuple(value, most):
    """Whether the value is a tuple of 1 to most items."""
    return isinstance(value, tuple) and 1 <= len(value) <= most


def _has_fit_lengths(rows):
    """Whether all rows are of one length, which a single row can have."""
    if len(rows) == 1 and len(rows[0]) > MAX_SINGLE:
        return False
    return all([len(row) == len(rows[0]) for row in rows])


def _has_fit_weights(rows):
    """Whether all weights are integers from 0 to the greatest for so many rows."""
    most = MAX_WEIGHT if len(rows) == 1 else 1
    return all([is_integer(weight) and 0 <= weight <= most for row in rows for weight in row])


def free(scale):
    """The number of kinds less the greatest number of independent rows."""
    return len(scale[0]) - len(plain_rows(scale))


def is_heap(scale, value):
    """Whether the value is a heap with a fit count for each kind of the scale."""
    if not isinstance(value, tuple) or len(value) != len(scale[0]):
        return False
    return all([is_integer(count) and 0 <= count <= MAX_COUNT for count in value])


def sums_of(scale, heap):
    """The sum of weight times count for each row."""
    return tuple([sum([weight * count for weight, count in zip(row, heap)]) for row in scale])


def lot(scale, sums):
    """The ascending tuple of all heaps with these sums; TooMany() above MAX_LOT of them."""
    kinds = len(scale[0])
    # The kinds are turned round, so that the first place of an equation is its last kind.
    equations = plain_rows([row[::-1] + (told,) for row, told in zip(scale, sums)])
    lasts = {kinds - 1 - first_place(equation): equation for equation in equations}
    if -1 in lasts:
        # An equation without kinds: the sums contradict each other.
        return ()
    chosen = [kind for kind in range(kinds) if kind not in lasts]
    counts = [_count_form(kind, lasts, chosen) for kind in range(kinds)]
    rows = _rows_of_chosen(counts, len(chosen))
    return tuple([tuple([value_of(form, row) // divisor for divisor, form in counts]) for row in rows])


def _count_form(kind, lasts, chosen):
    """A pair (divisor, form): the count of the kind is the form's value by the divisor.

    The form is over the counts of the chosen kinds, which are those that are the
    last kind of no equation.
    """
    if kind not in lasts:
        return 1, tuple([0] + [int(other == kind) for other in chosen])
    equation = lasts[kind]
    last = len(equation) - 2
    return equation[last - kind], tuple([equation[-1]] + [-equation[last - other] for other in chosen])


def _rows_of_chosen(counts, size):
    """The ascending list of the rows of so many chosen counts that make all counts integers from 0 on.

    As the count of a kind follows from the chosen kinds ahead of it, the heaps of
    these rows are ascending, too.
    """
    levels = [[form for _, form in counts]]
    for _ in range(size):
        levels.append(without_last(levels[-1]))
    levels.reverse()
    if any([limit[0] < 0 for limit in levels[0]]):
        return []
    modulus = 1
    for divisor, _ in counts:
        modulus = lcm(modulus, divisor)
    found = []
    _extend_row((), levels, modulus, _whole_starts(counts, size, modulus), found)
    return found


def _whole_starts(counts, size, modulus):
    """The starts of all rows of residues that make all counts integers, as a dict of True."""
    divided = [(divisor, form) for divisor, form in counts if divisor > 1]
    rows = [()]
    for _ in range(size):
        rows = [row + (residue,) for row in rows for residue in range(modulus)]
    whole = [row for row in rows if all([value_of(form, row) % divisor == 0 for divisor, form in divided])]
    return {row[:many]: True for row in whole for many in range(size + 1)}


def _extend_row(row, levels, modulus, starts, found):
    """Puts behind found all rows that begin with this one, in ascending order."""
    if tuple([number % modulus for number in row]) not in starts:
        return
    if len(row) + 1 == len(levels):
        if len(found) == MAX_LOT:
            raise TooMany()
        found.append(row)
        return
    low, high = span(levels[len(row) + 1], row)
    for number in range(low, high + 1):
        _extend_row(row + (number,), levels, modulus, starts, found)
