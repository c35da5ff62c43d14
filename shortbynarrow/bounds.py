"""Bounds of the strain, and the families that reach them."""

from math import comb

from shortbynarrow.amounts import lowest
from shortbynarrow.checks import is_between, is_whole_number
from shortbynarrow.errors import BadNumber
from shortbynarrow.lots import count_in
from shortbynarrow.shapes import fan, ring

FEWEST = 3
MOST = 7
LEAST_BROKEN = ((4, 3), (9, 7), (6, 5), (25, 21), (8, 7))


def _check_number(n):
    if not is_whole_number(n) or n < 1:
        raise BadNumber("n")


def _check_small_number(n):
    if not is_between(n, FEWEST, MOST):
        raise BadNumber("n")


def strain_top(n):
    """Return the greatest strain of a family with n useful things."""
    _check_number(n)
    return lowest((n + 1) * (n + 1) // 4, n)


def strain_bottom(n):
    """Return an amount that no strain above 1 of a family with n useful things is below."""
    _check_number(n)
    return lowest(n + 1, n)


def least_broken(n):
    """Return the least strain above 1 of a family with n useful things."""
    _check_small_number(n)
    return LEAST_BROKEN[n - FEWEST]


def broken_family(n):
    """Return a family of n things with the least strain above 1."""
    _check_small_number(n)
    return ring(n) if n == 5 or n == MOST else fan(n)


def is_votes(family):
    """Return k if the lots are all sets of k of all things, else None."""
    sizes = family.sizes()
    if len(sizes) > 1 or len(family) != comb(family.things, sizes[0]):
        return None
    return sizes[0]


def size_bound(family):
    """Return a bound of the strain by the greatest size of a lot."""
    most = family.sizes()[-1]
    many = len(family.useful)
    if 2 * most <= many + 1:
        return lowest(most * (many + 1 - most), many)
    return strain_top(many)


def meeting_bound(family):
    """Return the greatest number of things that a lot and a lot of the blocker have in common."""
    other = ~family
    return max([count_in(one & two) for one in family.masks for two in other.masks])


def holding_bound(family):
    """Return the greatest number of lots that hold one thing."""
    return max([len(family.lots_at(thing)) for thing in family.useful])
