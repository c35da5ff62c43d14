"""Packings of lots into widths, by fractions and by integers."""

from shortbynarrow.amounts import ZERO, amount, is_amount, plus
from shortbynarrow.checks import check_size, is_list
from shortbynarrow.errors import BadMix, TooMany
from shortbynarrow.families import MOST_THINGS
from shortbynarrow.filling import best_filling
from shortbynarrow.lengths import sum_on
from shortbynarrow.lots import fault_of_set
from shortbynarrow.rows import Row, row_of, whole_row

MOST_WIDTH = 24


def lot_columns(lots, things):
    """Return for each lot the column with 1 at its things and 0 elsewhere."""
    return [[1 if thing in lot else 0 for thing in range(things)] for lot in lots]


def _best_packing(family, widths):
    row = row_of(widths, family.things)
    return best_filling(lot_columns(family.lots, family.things), [1] * len(family.lots), row)


def packing(family, widths):
    """Return a packing of greatest total, a tuple of (lot, amount)."""
    weights = _best_packing(family, widths)[1]
    return tuple([(lot, weight) for lot, weight in zip(family.lots, weights) if weight != ZERO])


def cap(family, widths):
    """Return the greatest total of a packing."""
    return _best_packing(family, widths)[0]


def cheapest_cover(family, widths):
    """Return a cover whose product with the widths is the greatest total of a packing."""
    return _best_packing(family, widths)[2]


def whole_packing(family, widths):
    """Return a packing by integers of greatest total, a tuple of (lot, integer)."""
    row = whole_row(widths, family.things)
    if sum_on(row.tops, family.useful) > MOST_WIDTH:
        raise TooMany(MOST_WIDTH)
    total, _, cover = _best_packing(family, row)
    need = total[0] // total[1]
    chosen = _lots_in(family.lots, row.tops, need, cover, {})
    while chosen is None:
        need = need - 1
        chosen = _lots_in(family.lots, row.tops, need, cover, {})
    many = {lot: 0 for lot in family.lots}
    for lot in chosen:
        many[lot] = many[lot] + 1
    return tuple([(lot, many[lot]) for lot in family.lots if many[lot] > 0])


def whole(family, widths):
    """Return the greatest total of a packing by integers."""
    return sum([many for _, many in whole_packing(family, widths)])


def _lots_in(lots, room, need, cover, failed):
    """Return so many lots (some more than once) that fit into the room together, None if none do.

    `failed` keeps for each room the least number of lots that did not fit into it.
    """
    if need <= 0:
        return []
    fitting = [lot for lot in lots if _fits(lot, room)]
    wanted = {place: True for lot in fitting for place in lot}
    space = tuple([width if place in wanted else 0 for place, width in enumerate(room)])
    # no packing into the space has a greater total than any cover has on it
    if sum([top * width for top, width in zip(cover.tops, space)]) < need * cover.bottom:
        return None
    if space in failed and failed[space] <= need:
        return None
    thing = _rarest(fitting, list(wanted))
    for first in fitting:
        if thing in first:
            rest = [width - 1 if place in first else width for place, width in enumerate(space)]
            found = _lots_in(fitting, rest, need - 1, cover, failed)
            if found is not None:
                return [first] + found
    rest = [0 if place == thing else width for place, width in enumerate(space)]
    found = _lots_in(fitting, rest, need, cover, failed)
    if found is None:
        failed[space] = need
    return found


def _fits(lot, room):
    """Tell whether there is room for the lot."""
    return all([room[thing] > 0 for thing in lot])


def _rarest(lots, things):
    """Return the first of the things that are in the fewest lots."""
    counts = [(len([lot for lot in lots if thing in lot]), thing) for thing in things]
    return min(counts)[1]


def _is_weighted(entry, size):
    if not is_list(entry) or len(entry) != 2:
        return False
    return fault_of_set(entry[0], size) is None and is_amount(entry[1])


def _check_weighted(weighted, size):
    if not is_list(weighted):
        raise BadMix(-1)
    for place, entry in enumerate(weighted):
        if not _is_weighted(entry, size):
            raise BadMix(place)


def total_of(weighted):
    """Return the sum of the amounts of pairs (set, amount)."""
    _check_weighted(weighted, MOST_THINGS)
    total = ZERO
    for entry in weighted:
        total = plus(total, entry[1])
    return total


def row_of_packing(weighted, size):
    """Return the row that has at each thing the sum of the amounts of the sets with it."""
    check_size(size)
    _check_weighted(weighted, size)
    sums = [ZERO] * size
    for things, weight in weighted:
        for thing in things:
            sums[thing] = plus(sums[thing], amount(weight))
    return Row.of_amounts(sums)
