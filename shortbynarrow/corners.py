"""Corners: the covers that are not halfway between two other ones."""

from math import gcd, lcm

from shortbynarrow.checks import is_between
from shortbynarrow.errors import BadNumber, TooMany
from shortbynarrow.lots import count_in
from shortbynarrow.rows import Row, row_of

MOST_USEFUL = 7
GREATEST_BOTTOMS = (1, 1, 2, 3, 5, 9, 32)


def check_useful(family):
    """Raise TooMany(7) if the family has more than 7 useful things."""
    if len(family.useful) > MOST_USEFUL:
        raise TooMany(MOST_USEFUL)


def corners_of(family):
    """Return the list of all corners, ascending."""
    check_useful(family)
    useful = family.useful
    points = [ray for ray, _ in _rays(family, useful) if ray[-1] > 0]
    bottom = 1
    for ray in points:
        bottom = lcm(bottom, ray[-1])
    tops = sorted([[top * (bottom // ray[-1]) for top in ray[:-1]] for ray in points])
    return [Row(spread(row, useful, family.things), bottom) for row in tops]


def spread(tops, useful, things):
    """Return the entries of all things, 0 at the useless ones."""
    found = [0] * things
    for thing, top in zip(useful, tops):
        found[thing] = top
    return found


def _rays(family, useful):
    """Return the rays of all (x, t) with x(a) >= t for each lot a, and with no entry below 0.

    A ray with t > 0 stands for the corner x / t. Each ray comes with the mask of the conditions that
    it meets with equality: the first bits stand for the entries, the others for the lots.
    """
    size = len(useful) + 1
    everything = (1 << size) - 1
    rays = [(_unit(size, place), everything & ~(1 << place)) for place in range(size)]
    for place, lot in enumerate(family.lots):
        places = [spot for spot, thing in enumerate(useful) if thing in lot]
        rays = _cut(rays, places, 1 << (size + place), size)
    return rays


def _unit(size, place):
    """Return so many integers, 1 at the place and 0 elsewhere."""
    return [1 if spot == place else 0 for spot in range(size)]


def _cut(rays, places, bit, size):
    """Return the rays when one more lot asks for its condition, told by the places of its things."""
    above = []
    below = []
    kept = []
    for ray, equal in rays:
        excess = sum([ray[place] for place in places]) - ray[-1]
        if excess > 0:
            above.append((ray, equal, excess))
            kept.append((ray, equal))
        elif excess == 0:
            kept.append((ray, equal | bit))
        else:
            below.append((ray, equal, -excess))
    masks = [equal for _, equal in rays]
    for ray, equal, excess in above:
        for other, others, lack in below:
            if _are_neighbours(equal & others, masks, size):
                made = [lack * one + excess * two for one, two in zip(ray, other)]
                kept.append((_shortened(made), equal & others | bit))
    return kept


def _are_neighbours(common, masks, size):
    """Tell whether just two rays meet the conditions that these two have in common."""
    if count_in(common) < size - 2:
        return False
    return len([mask for mask in masks if mask & common == common]) == 2


def _shortened(ray):
    """Return the integers of a ray without a common divisor."""
    common = 0
    for entry in ray:
        common = gcd(common, entry)
    return [entry // common for entry in ray]


def whole_corners(family):
    """Return the list of the corners with all entries 0 or 1, ascending."""
    return [row for row in corners_of(family) if row.is_whole]


def broken_corners(family):
    """Return the list of the other corners, ascending."""
    return [row for row in corners_of(family) if not row.is_whole]


def cheapest_corner(family, tolls):
    """Return the first corner whose product with the tolls is least."""
    row = row_of(tolls, family.things)
    return cheapest_of(corners_of(family), row)


def cheapest_of(corners, row):
    """Return the first of some rows whose product with the other row is least."""
    best, least = None, 0
    for corner in corners:
        cost = sum([one * two for one, two in zip(corner.tops, row.tops)])
        if best is None or cost * best.bottom < least * corner.bottom:
            best, least = corner, cost
    return best


def bound_of(number):
    """Return the greatest bottom that a corner of so many useful things may have."""
    if not is_between(number, 1, MOST_USEFUL):
        raise BadNumber("number")
    return GREATEST_BOTTOMS[number - 1]
