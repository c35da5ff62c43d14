"""The corners of a part by one thing, and the corners of the family that belong to them."""

from shortbynarrow.amounts import ONE, ZERO
from shortbynarrow.checks import check_thing
from shortbynarrow.corners import corners_of
from shortbynarrow.covers import is_corner, raised
from shortbynarrow.errors import BadRow, Lost
from shortbynarrow.rows import row_of


def corners_held(family, thing):
    """Return the list of the corners with 0 at the thing, ascending: those of the part that holds it."""
    check_thing(thing, family.things)
    if (thing,) in family.lots:
        raise Lost(thing, "held")
    return [corner for corner in corners_of(family) if corner.tops[thing] == 0]


def lifted(family, row, thing):
    """Return the corner of the family over a corner of the part that leaves out the thing."""
    corner = row_of(row, family.things)
    # the difference checks the thing and raises Lost
    if not is_corner(family - thing, corner):
        raise BadRow(-1)
    return corner.with_entry(thing, raised(family, corner, thing))


def dropped(family, row, thing):
    """Return the corner with 0 in the place of its 1 at the thing: a corner of the part without it."""
    corner = row_of(row, family.things)
    check_thing(thing, family.things)
    if all([thing in lot for lot in family.lots]):
        raise Lost(thing, "left")
    if not is_corner(family, corner):
        raise BadRow(-1)
    if corner[thing] != ONE:
        raise BadRow(thing)
    return corner.with_entry(thing, ZERO)
