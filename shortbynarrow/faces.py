"""Faces of the strain: the worst rows, and ratios that are never above it."""

from shortbynarrow.amounts import greatest, over
from shortbynarrow.corners import corners_of
from shortbynarrow.lengths import narrow, short
from shortbynarrow.mixes import stretch
from shortbynarrow.packings import cap
from shortbynarrow.rows import Row, row_of
from shortbynarrow.strains import worst_pair


def worst_lengths(family):
    """Return the whole row of lengths that the first row of the worst pair gives."""
    return Row(worst_pair(family)[0].tops)


def worst_widths(family):
    """Return the whole row of widths that the second row of the worst pair gives."""
    return Row(worst_pair(family)[1].tops)


def pack_ratio(family, widths):
    """Return the narrowest width over the greatest total of a packing, None if that is zero."""
    row = row_of(widths, family.things)
    return over(narrow(family, row), cap(family, row))


def lot_ratio(family, lengths):
    """Return the shortest length over the greatest total of a packing of the blocker, None if that is zero."""
    row = row_of(lengths, family.things)
    return over(short(family, row), cap(~family, row))


def widest_stretch(family):
    """Return the greatest amount by which a corner is to be multiplied to be at least a mix of the blocker."""
    corners = corners_of(family)
    other = ~family
    return greatest([stretch(other, corner) for corner in corners])
