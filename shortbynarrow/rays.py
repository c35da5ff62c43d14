"""Corners of what some conditions leave of all rows, by the rays of a cone."""

from math import gcd, lcm

from shortbynarrow.lots import count_in


def corner_tops(conditions):
    """Return the corners of all rows x that meet the conditions, ascending, as (tops, bottom).

    A condition is a list of integers, a number for each entry and then one more; it asks that the sum of
    the numbers times the entries, and the last number, is not below 0. No entry is below 0 either. The
    bottom is the same for all corners.
    """
    points = [ray for ray in _rays(conditions) if ray[-1] > 0]
    bottom = 1
    for ray in points:
        bottom = lcm(bottom, ray[-1])
    tops = sorted([[top * (bottom // ray[-1]) for top in ray[:-1]] for ray in points])
    return [(row, bottom) for row in tops]


def _rays(conditions):
    """Return the rays of all (x, t) without an entry below 0 whose product with no condition is below 0.

    A ray with t > 0 stands for the corner x / t. On the way each ray comes with the mask of what it meets
    with equality: the first bits stand for the entries, the others for the conditions.
    """
    size = len(conditions[0])
    everything = (1 << size) - 1
    rays = [(_unit(size, place), everything & ~(1 << place)) for place in range(size)]
    for place, condition in enumerate(conditions):
        rays = _cut(rays, condition, 1 << (size + place), size)
    return [ray for ray, _ in rays]


def _unit(size, place):
    """Return so many integers, 1 at the place and 0 elsewhere."""
    return [1 if spot == place else 0 for spot in range(size)]


def _cut(rays, condition, bit, size):
    """Return the rays when one more condition is asked for."""
    above = []
    below = []
    kept = []
    for ray, equal in rays:
        excess = sum([one * two for one, two in zip(condition, ray)])
        if excess > 0:
            above.append((ray, equal, excess))
            kept.append((ray, equal))
        elif excess == 0:
            kept.append((ray, equal | bit))
        else:
            below.append((ray, equal, -excess))
    masks = [equal for _, equal in rays]
    for ray, equal, excess in above:
        for other, others, lack in below:
            if _are_neighbours(equal & others, masks, size):
                made = [lack * one + excess * two for one, two in zip(ray, other)]
                kept.append((_shortened(made), equal & others | bit))
    return kept


def _are_neighbours(common, masks, size):
    """Tell whether just two rays meet with equality what these two have in common."""
    if count_in(common) < size - 2:
        return False
    return len([mask for mask in masks if mask & common == common]) == 2


def _shortened(ray):
    """Return the integers of a ray without a common divisor."""
    common = 0
    for entry in ray:
        common = gcd(common, entry)
    return [entry // common for entry in ray]
