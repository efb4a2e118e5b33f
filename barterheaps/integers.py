"""Integers, rows of integers, and limits on them.

A form is a row (constant, factor, ..); with as many numbers as factors its value
is the constant and the sum of factor times number. A limit is a form whose value
must be 0 or more.
"""

from math import gcd, lcm


def is_integer(value):
    """Whether the value is an integer; True and False are none."""
    return isinstance(value, int) and not isinstance(value, bool)


def first_place(row):
    """The place of the first number other than 0; len(row) if there is none."""
    for place, number in enumerate(row):
        if number != 0:
            return place
    return len(row)


def in_lowest_terms(row):
    """The multiple of a row of not only 0 that has no common divisor and begins above 0."""
    divisor = 0
    for number in row:
        divisor = gcd(divisor, number)
    if row[first_place(row)] < 0:
        divisor = -divisor
    return tuple([number // divisor for number in row])


def cleared(row, other):
    """The row less that multiple of the other which leaves 0 in the other's first place."""
    place = first_place(other)
    if row[place] == 0:
        return row
    return tuple([number * other[place] - row[place] * less for number, less in zip(row, other)])


def plain_rows(rows):
    """The plain rows of all sums of rational multiples of the rows."""
    found = []
    for row in rows:
        rest = row
        for other in found:
            rest = cleared(rest, other)
        if first_place(rest) < len(rest):
            rest = in_lowest_terms(rest)
            found = [in_lowest_terms(cleared(other, rest)) for other in found]
            found.append(rest)
    # Each begins above 0 where all others have 0, so the greater one begins first.
    return tuple(sorted(found, reverse=True))


def dot(one, other):
    """The sum of the products of the numbers in the same places."""
    return sum([number * factor for number, factor in zip(one, other)])


def square_rows(rows):
    """Rows with the same sums of rational multiples, at right angles to one another."""
    found = []
    for row in plain_rows(rows):
        rest = row
        for other in found:
            size = dot(other, other)
            share = dot(rest, other)
            rest = tuple([size * number - share * less for number, less in zip(rest, other)])
        found.append(in_lowest_terms(rest))
    return found


def rows_across(rows, size):
    """The plain rows of all rows of so many numbers whose dot with each of the rows is 0."""
    equations = plain_rows(rows)
    firsts = [first_place(equation) for equation in equations]
    scaling = 1
    for equation, first in zip(equations, firsts):
        scaling = lcm(scaling, equation[first])
    found = []
    for place in range(size):
        if place not in firsts:
            row = [scaling * int(other == place) for other in range(size)]
            for equation, first in zip(equations, firsts):
                row[first] = -equation[place] * scaling // equation[first]
            found.append(tuple(row))
    return plain_rows(found)


def value_of(form, numbers):
    """The value of the form; with too few numbers, its value with 0 for the others."""
    return form[0] + sum([factor * number for factor, number in zip(form[1:], numbers)])


def without_last(limits):
    """Limits on all numbers but the last; a rational last one fits just if they hold."""
    fewer = [limit[:-1] for limit in limits if limit[-1] == 0]
    lower = [limit for limit in limits if limit[-1] > 0]
    upper = [limit for limit in limits if limit[-1] < 0]
    for low in lower:
        for high in upper:
            both = [high[place] * low[-1] - low[place] * high[-1] for place in range(len(low) - 1)]
            fewer.append(tuple(both))
    return fewer


def span(limits, numbers):
    """The least and the greatest integer that can stand behind the numbers.

    The limits have one factor more than there are numbers, and some of these last
    factors are above 0, some below. The greatest is less than the least if no
    integer can stand there.
    """
    lows = [-(value_of(limit, numbers) // limit[-1]) for limit in limits if limit[-1] > 0]
    highs = [value_of(limit, numbers) // -limit[-1] for limit in limits if limit[-1] < 0]
    return max(lows), min(highs)
