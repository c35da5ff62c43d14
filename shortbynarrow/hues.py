"""Hues: how many quiet sets it takes, by fractions, to have each useful thing once."""

from shortbynarrow.amounts import ONE, apart, least, over, times
from shortbynarrow.couples import check_couples, check_no_single
from shortbynarrow.packings import cap, packing, total_of
from shortbynarrow.rows import Row, row_of


def _blocker_cap(family):
    """Return the greatest total of a packing of the blocker at the widths 1: it is h / (h - 1), h the hues."""
    return cap(~family, Row.ones(family.things))


def hues(family):
    """Return the hues."""
    check_no_single(family)
    total = _blocker_cap(family)
    return over(total, apart(total, ONE))


def quiet_mix(family):
    """Return a mix of quiet sets of useful things that has at least 1 over the hues at each of these."""
    check_no_single(family)
    weighted = packing(~family, Row.ones(family.things))
    total = total_of(weighted)
    useful = family.useful
    # the useful things outside a lot of the blocker are quiet, and a packing has no thing more than once
    pairs = [(tuple([e for e in useful if e not in lot]), over(weight, total)) for lot, weight in weighted]
    return tuple(sorted(pairs))


def couple_price(family, tolls):
    """Return the price of a family of couples."""
    check_couples(family)
    row = row_of(tolls, family.things)
    entries = [row[thing] for thing in family.useful]
    return least([*entries, times((1, 2), cap(~family, row))])


def couple_strain(family):
    """Return the strain of a family of couples."""
    check_couples(family)
    return over(2, _blocker_cap(family))


def half_row(family):
    """Return the row with 1/2 at each useful thing."""
    check_couples(family)
    useful = family.useful
    return Row([1 if thing in useful else 0 for thing in range(family.things)], 2)


def hue_bound(family):
    """Return a bound of the strain from below, by the least size and the hues."""
    check_no_single(family)
    return over(family.least_size(), _blocker_cap(family))
