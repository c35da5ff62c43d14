"""Mixes of lots, and of corners, under a row."""

from shortbynarrow.amounts import ONE, ZERO, at_most, over
from shortbynarrow.corners import check_useful, corners_of
from shortbynarrow.covers import checked_cover
from shortbynarrow.filling import best_filling
from shortbynarrow.packings import cap, packing, total_of
from shortbynarrow.rows import row_of


def mix_under(family, row):
    """Return a mix of lots whose row is at most the row, None if there is none."""
    weighted = packing(family, row_of(row, family.things))
    total = total_of(weighted)
    if not at_most(ONE, total):
        return None
    return tuple([(lot, over(weight, total)) for lot, weight in weighted])


def stretch(family, row):
    """Return the least amount by which the row is to be multiplied to be at least a mix of lots."""
    return over(ONE, cap(family, row_of(row, family.things)))


def mix_of_corners(family, row):
    """Return a mix of corners whose row is at most the row, a cover."""
    cover = checked_cover(family, row)
    check_useful(family)
    corners = corners_of(family)
    columns = [list(corner.tops) for corner in corners]
    # a corner is its column over its bottom, so a weight of the column counts bottom times
    total, weights, _ = best_filling(columns, [corner.bottom for corner in corners], cover)
    found = []
    for corner, weight in zip(corners, weights):
        if weight != ZERO:
            found.append((corner, over((weight[0] * corner.bottom, weight[1]), total)))
    return tuple(found)
