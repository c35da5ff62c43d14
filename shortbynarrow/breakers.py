"""Corners that break a row: their product with it is less than 1."""

from shortbynarrow.corners import corners_of
from shortbynarrow.rows import row_of


def _breaks(corner, row):
    top = sum([one * two for one, two in zip(corner.tops, row.tops)])
    return top < corner.bottom * row.bottom


def breakers(family, row):
    """Return the list of all corners that break the row, ascending."""
    checked = row_of(row, family.things)
    return [corner for corner in corners_of(family) if _breaks(corner, checked)]


def breaking(family, row):
    """Return the first corner that breaks the row, None if there is none."""
    found = breakers(family, row)
    return found[0] if found else None
