"""The blocker of a family, its two sides, and its quiet sets."""

from shortbynarrow.checks import is_whole_number
from shortbynarrow.errors import BadLots, BadThing
from shortbynarrow.lots import blocker_masks, fault_of_set, least_masks, mask_of, things_in


def blocker(family):
    """Return the family of the least sets that meet every lot."""
    return ~family


def side_of(family, things):
    """Return "lot" if the set holds a lot, else "block": then the things outside meet every lot."""
    return "lot" if family.holds(things) else "block"


def is_lot_of(family, lot):
    """Tell whether the value is a lot of the family, in any order of its things."""
    return fault_of_set(lot, family.things) is None and tuple(sorted(lot)) in family.lots


def private_lot(family, lot, thing):
    """Return the first lot of the blocker that meets a lot in one thing alone."""
    if not is_lot_of(family, lot):
        raise BadLots(-1)
    if not is_whole_number(thing) or thing not in lot:
        raise BadThing(thing)
    inside = mask_of(lot)
    # the lots with the thing are met by it; the others are to be met outside the lot
    rest = least_masks([mask & ~inside for mask in family.masks if not mask >> thing & 1])
    return min([things_in(mask | (1 << thing)) for mask in blocker_masks(rest)])


def _outsides(family):
    """Return the sets of all things outside a lot of the blocker, ascending."""
    blocks = (~family).lots
    return sorted([tuple([e for e in range(family.things) if e not in block]) for block in blocks])


def quiet_sets(family):
    """Yield all greatest sets that hold no lot, ascending."""
    for found in _outsides(family):
        yield found
