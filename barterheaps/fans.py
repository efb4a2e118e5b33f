"""All lowering books of a scale, for all prices."""

from barterheaps.bounds import MAX_FAN
from barterheaps.costs import lowering_among
from barterheaps.errors import TooFree
from barterheaps.exchanges import least_exchanges
from barterheaps.integers import dot, rows_across
from barterheaps.scales import free


def lowering_books(scale):
    """The ascending tuple of all pairs (lowering book, a price row that has it); TooFree()."""
    if free(scale) > MAX_FAN:
        raise TooFree()
    least = least_exchanges(scale)
    found = {}
    for prices in _telling_prices(scale, least):
        found.setdefault(lowering_among(least, prices), prices)
    return tuple(sorted(found.items()))


def _telling_prices(scale, least):
    """Price rows of which some one has the same lowering book as any price row has.

    The book follows from which side of each least exchange is the dearer one. With
    two free, prices that differ by more than rows of the scale are the points of a
    plane, in which each least exchange costs nothing along a line. The lines part
    the plane into sectors, and each sector lies beside a line: so it holds a point
    far out on that line, moved a little off it. (Ties are decided as by a point
    near by.) With one free, there is only the one exchange, and no line.
    """
    kinds = len(scale[0])
    nothing = (0,) * kinds
    found = [nothing]
    changes = [tuple([less - more for less, more in zip(take, put)]) for take, put in least]
    for change in changes:
        # Farther out no other exchange changes its dearer side by the move.
        times = 1 + max([abs(dot(change, other)) for other in changes])
        for line in rows_across(scale + (change,), kinds) or (nothing,):
            for far in (times, -times):
                found.append(tuple([far * along + off for along, off in zip(line, change)]))
                found.append(tuple([far * along - off for along, off in zip(line, change)]))
    return found
