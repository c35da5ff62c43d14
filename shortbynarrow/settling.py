"""Settled pairs: neither side can lower the sum alone."""

from shortbynarrow.covers import checked_cover
from shortbynarrow.errors import BadRow
from shortbynarrow.lengths import narrow_top
from shortbynarrow.packings import cap
from shortbynarrow.pricing import CornerPairs, sum_of_pair
from shortbynarrow.rows import Row, row_of


def _row_above_zero(value):
    row = value if isinstance(value, Row) else Row(value)
    for place, top in enumerate(row.tops):
        if top == 0:
            raise BadRow(place)
    return row


def positive_row(value, size):
    """Return the row that the value stands for, which must have no entry 0 and this size."""
    return row_of(_row_above_zero(value), size)


def positive_or_ones(value, size):
    """Return the same; here None stands for 1s."""
    return Row.ones(size) if value is None else positive_row(value, size)


def contrary_of(row):
    """Return the row with the entries 1 over the entries."""
    checked = _row_above_zero(row)
    return Row.of_amounts([(entry[1], entry[0]) for entry in checked])


def covers_of_both(family, x, y):
    """Raise NotCover unless the first row is a cover of the family and the second one of its blocker."""
    checked_cover(family, x)
    # a blocker with far too many lots is listed only to tell the first one that is not covered
    if narrow_top(family, y.tops, y.bottom) < y.bottom:
        checked_cover(~family, y)


def settles(family, x, y, tolls):
    """Tell whether no cover in place of the one row, or of the other one, has a lesser sum."""
    total = sum_of_pair(x, y, tolls)
    return cap(family, tolls * y) == total and cap(~family, tolls * x) == total


def is_settled(family, x, y, *, tolls=None):
    """Tell whether a pair is settled at the tolls."""
    ours, theirs = row_of(x, family.things), row_of(y, family.things)
    row = positive_or_ones(tolls, family.things)
    covers_of_both(family, ours, theirs)
    return settles(family, ours, theirs, row)


def settled_pairs(family, tolls):
    """Return the list of all settled pairs of corners."""
    pairs = CornerPairs(family, positive_row(tolls, family.things))
    least_over = [min(sums) for sums in pairs.sums]
    least_beside = [min(column) for column in zip(*pairs.sums)]
    found = []
    for ours, tops, over in zip(pairs.ours, pairs.sums, least_over):
        for theirs, top, beside in zip(pairs.theirs, tops, least_beside):
            if top == over and top == beside:
                found.append((ours, theirs))
    return found
