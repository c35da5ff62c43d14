"""Pairs of covers, one on each side, of a given family or of some family."""

from shortbynarrow.covers import is_cover
from shortbynarrow.errors import TooMany
from shortbynarrow.families import Family
from shortbynarrow.lengths import narrow_top
from shortbynarrow.lots import count_in, least_masks, things_in
from shortbynarrow.rows import Row, row_of

MOST_ENTRIES = 12


def is_pair(family, x, y):
    """Tell whether x is a cover of the family and y one of its blocker."""
    ours, theirs = row_of(x, family.things), row_of(y, family.things)
    if not is_cover(family, ours):
        return False
    # y covers the blocker if no lot of the blocker is narrower than 1
    return narrow_top(family, theirs.tops, theirs.bottom) == theirs.bottom


def _two_rows(x, y):
    """Return the two rows, which must be of one length of at most 12."""
    one = x if isinstance(x, Row) else Row(x)
    other = row_of(y, len(one))
    if len(one) > MOST_ENTRIES:
        raise TooMany(MOST_ENTRIES)
    return one, other


def _full_masks(row):
    """Return for each mask, counted up from 0, whether the row has at least 1 on it."""
    sums = [0]
    for top in row.tops:
        sums = sums + [one + top for one in sums]
    return [one >= row.bottom for one in sums]


def _failing_masks(ours, theirs):
    """Return the masks that fail, from the masks on which x, and on which y, has at least 1."""
    everything = len(ours) - 1
    return [mask for mask in range(len(ours)) if not ours[mask] and not theirs[everything - mask]]


def some_family(x, y):
    """Return a family of which (x, y) is a pair, None if there is none."""
    one, other = _two_rows(x, y)
    ours = _full_masks(one)
    if _failing_masks(ours, _full_masks(other)):
        return None
    lots = least_masks([mask for mask in range(len(ours)) if ours[mask]])
    return Family(len(one), [things_in(mask) for mask in lots])


def failing_set(x, y):
    """Return the first set that fails, smaller ones first, None if no set fails."""
    one, other = _two_rows(x, y)
    masks = _failing_masks(_full_masks(one), _full_masks(other))
    if not masks:
        return None
    return min([(count_in(mask), things_in(mask)) for mask in masks])[1]
