"""Groups of akin heaps, and the sums at which something must be exchanged."""

from barterheaps.exchanges import least_exchanges
from barterheaps.integers import first_place
from barterheaps.scales import lot, sums_of


def groups(scale, sums):
    """The tuple of the groups of the lot, in the order of their first heaps; TooMany() as lot."""
    heaps = lot(scale, sums)
    labels = _kind_labels(heaps, len(scale[0]))
    found = {}
    for heap in heaps:
        found.setdefault(labels[first_place(heap)], []).append(heap)
    return tuple([tuple(group) for group in found.values()])


def _kind_labels(heaps, kinds):
    """A label for each kind, the same for two that chains of akin heaps tie, and one for a heap of nothing."""
    labels = list(range(kinds + 1))
    for heap in heaps:
        first = first_place(heap)
        for kind in range(first + 1, kinds):
            if heap[kind] > 0:
                labels = tied(labels, first, kind)
    return labels


def tied(labels, one, other):
    """The labels with the label of place one in all places that have that of the place other."""
    if labels[one] == labels[other]:
        return labels
    return [labels[one] if label == labels[other] else label for label in labels]


def critical(scale):
    """The ascending tuple of all pairs (sums, many) with more than one group."""
    return tuple([(sums, len(parts)) for sums, parts in critical_groups(scale)])


def critical_groups(scale):
    """The ascending list of all pairs (sums, groups) with more than one group."""
    # Critical sums are those of a least exchange, so no others need be tried.
    sums_tried = sorted({sums_of(scale, take) for take, _ in least_exchanges(scale)})
    pairs = [(sums, groups(scale, sums)) for sums in sums_tried]
    return [(sums, parts) for sums, parts in pairs if len(parts) > 1]
