"""Prices of parts, and what they tell of the price of the family."""

from shortbynarrow.amounts import ZERO, least, times
from shortbynarrow.checks import check_thing
from shortbynarrow.corners import bound_of, check_useful
from shortbynarrow.loads import rise
from shortbynarrow.lots import checked_set
from shortbynarrow.parts import checked_sides, is_lost, part, subsets_of
from shortbynarrow.pricing import price
from shortbynarrow.rows import row_of


def price_of_part(family, tolls, left, kept):
    """Return the price of a part, None if it is lost."""
    row = row_of(tolls, family.things)
    out, inside = checked_sides(family, left, kept)
    return _price_or_none(family, row, out, inside)


def _price_or_none(family, row, out, inside):
    if is_lost(family, out, inside):
        return None
    return price(part(family, out, inside), row)


def lesser_part(family, tolls, thing):
    """Return the lesser one of the prices of the two parts by a thing, None if both are lost."""
    row = row_of(tolls, family.things)
    check_thing(thing, family.things)
    return lesser_parts(family, row, (thing,))


def lesser_parts(family, tolls, things):
    """Return the least price of a part by just these things, None if all these are lost."""
    row = row_of(tolls, family.things)
    asked = checked_set(things, family.things)
    check_useful(family)
    # useless things do not change the parts
    useful = [thing for thing in family.useful if thing in asked]
    prices = []
    for out in subsets_of(useful):
        inside = tuple([thing for thing in useful if thing not in out])
        prices.append(_price_or_none(family, row, out, inside))
    # None is more than each amount, so lost parts count only if there are no others
    return least(prices)


def far_toll(family, tolls, things):
    """Return the toll from which on the things do as if they were left out or held, None if there is none."""
    lesser = lesser_parts(family, tolls, things)
    bound = bound_of(len(family.useful))
    return None if lesser is None else times(bound * bound, lesser)


def rests(family, tolls, thing):
    """Tell whether some best pair has load 0 at the thing."""
    return rise(family, tolls, thing) == ZERO
