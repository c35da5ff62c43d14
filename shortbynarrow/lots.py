"""Sets of things as ascending tuples, and lists of such sets.

Inside, a set of things is also a mask: the integer whose bit e is 1 for each thing e of the set.
"""

from shortbynarrow.checks import check_size, is_between, is_list
from shortbynarrow.errors import BadSet


def fault_of_set(things, size):
    """Return None for a set of integers below size, else the place of the first fault (-1: no list)."""
    if not is_list(things):
        return -1
    seen = {}
    for place, thing in enumerate(things):
        if not is_between(thing, 0, size - 1) or thing in seen:
            return place
        seen[thing] = True
    return None


def checked_set(things, size):
    """Return the set as an ascending tuple, for a size that is known to be right."""
    place = fault_of_set(things, size)
    if place is not None:
        raise BadSet(place)
    return tuple(sorted(things))


def set_of(things, size):
    """Return the set as an ascending tuple."""
    check_size(size)
    return checked_set(things, size)


def mask_of(things):
    """Return the mask of a set."""
    mask = 0
    for thing in things:
        mask = mask | (1 << thing)
    return mask


def things_in(mask):
    """Return the set of a mask."""
    return tuple([thing for thing in range(mask.bit_length()) if mask >> thing & 1])


def count_in(mask):
    """Return the number of things of a mask."""
    figures = f"{mask:b}"
    return figures.count("1")


def holds_one_of(mask, masks):
    """Tell whether the set holds one of the others."""
    for small in masks:
        if small & mask == small:
            return True
    return False


def meets_all(mask, masks):
    """Tell whether the set meets each of the others."""
    for other in masks:
        if not mask & other:
            return False
    return True


def least_masks(masks):
    """Return those masks that hold no other one, each once."""
    different = list({mask: True for mask in masks})
    kept = []
    level = []
    before = 0
    for size, large in sorted([(count_in(mask), mask) for mask in different]):
        # sets of one size do not hold each other: only those of lesser sizes are asked
        if size != before:
            kept = kept + level
            level = []
            before = size
        if not holds_one_of(large, kept):
            level.append(large)
    return kept + level


def _thing_list(lots):
    """Return all things of the lots, ascending, each once."""
    return sorted(list({thing: True for lot in lots for thing in lot}))


def _masks_by(order, lots):
    """Return the masks of lots whose things count by their places in the order."""
    places = {thing: place for place, thing in enumerate(order)}
    return [mask_of([places[thing] for thing in lot]) for lot in lots]


def _lots_by(order, masks):
    """Return the lots of masks by places in the order, ascending."""
    return tuple(sorted([tuple([order[place] for place in things_in(mask)]) for mask in masks]))


def least_lots(lots):
    """Return the least ones of a list of sets, ascending, each once."""
    order = _thing_list(lots)
    return _lots_by(order, least_masks(_masks_by(order, lots)))


def blocker_lots(lots):
    """Return the least sets that meet each set of a list, ascending."""
    order = _thing_list(lots)
    return _lots_by(order, blocker_masks(least_masks(_masks_by(order, lots))))


def most_frequent(masks):
    """Return the mask of a thing that is in the most of the masks, and the number of these."""
    best, most = 0, 0
    union = 0
    for mask in masks:
        union = union | mask
    for thing in things_in(union):
        bit = 1 << thing
        many = len([mask for mask in masks if mask & bit])
        if many > most:
            best, most = bit, many
    return best, most


def each_blocker_mask(masks):
    """Yield, one after another, what `blocker_masks` returns: for those who may stop early."""
    if not masks:
        yield 0
        return
    bit = most_frequent(masks)[0]
    without = [mask for mask in masks if not mask & bit]
    cut = [mask & ~bit for mask in masks if mask & bit]
    for mask in each_blocker_mask(without):
        if not meets_all(mask, cut):
            yield mask | bit
    if 0 not in cut:
        rest = least_masks(without + cut)
        yield from each_blocker_mask(rest)


def _choices(masks):
    """Return all sets with one thing of each of some masks without a common thing."""
    found = [0]
    for mask in masks:
        found = [one | (1 << thing) for one in found for thing in things_in(mask)]
    return found


def blocker_masks(masks):
    """Return the least masks that meet each one of some masks, none of which holds another one."""
    if 0 in masks:
        return []
    bit, many = most_frequent(masks)
    if many <= 1:
        return _choices(masks)
    without = [mask for mask in masks if not mask & bit]
    cut = [mask & ~bit for mask in masks if mask & bit]
    # a least set has the thing, and then something else does not do in its place, or it has not
    with_it = [mask | bit for mask in blocker_masks(without) if not meets_all(mask, cut)]
    if 0 in cut:
        return with_it
    return with_it + blocker_masks(least_masks(without + cut))
