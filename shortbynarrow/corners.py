"""Corners: the covers that are not halfway between two other ones."""

from shortbynarrow.checks import is_between
from shortbynarrow.errors import BadNumber, TooMany
from shortbynarrow.rays import corner_tops
from shortbynarrow.rows import Row, row_of

MOST_USEFUL = 7
GREATEST_BOTTOMS = (1, 1, 2, 3, 5, 9, 32)


def check_useful(family):
    """Raise TooMany(7) if the family has more than 7 useful things."""
    if len(family.useful) > MOST_USEFUL:
        raise TooMany(MOST_USEFUL)


def corners_of(family):
    """Return the list of all corners, ascending."""
    check_useful(family)
    useful = family.useful
    conditions = [[1 if thing in lot else 0 for thing in useful] + [-1] for lot in family.lots]
    return [Row(spread(tops, useful, family.things), bottom) for tops, bottom in corner_tops(conditions)]


def spread(tops, useful, things):
    """Return the entries of all things, 0 at the useless ones."""
    found = [0] * things
    for thing, top in zip(useful, tops):
        found[thing] = top
    return found


def whole_corners(family):
    """Return the list of the corners with all entries 0 or 1, ascending."""
    return [row for row in corners_of(family) if row.is_whole]


def broken_corners(family):
    """Return the list of the other corners, ascending."""
    return [row for row in corners_of(family) if not row.is_whole]


def cheapest_corner(family, tolls):
    """Return the first corner whose product with the tolls is least."""
    row = row_of(tolls, family.things)
    return cheapest_of(corners_of(family), row)


def cheapest_of(corners, row):
    """Return the first of some rows whose product with the other row is least."""
    best, least = None, 0
    for corner in corners:
        cost = sum([one * two for one, two in zip(corner.tops, row.tops)])
        if best is None or cost * best.bottom < least * corner.bottom:
            best, least = corner, cost
    return best


def bound_of(number):
    """Return the greatest bottom that a corner of so many useful things may have."""
    if not is_between(number, 1, MOST_USEFUL):
        raise BadNumber("number")
    return GREATEST_BOTTOMS[number - 1]
