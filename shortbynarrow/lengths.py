"""Shortest lots, narrowest lots of the blocker, and critical lengths."""

from shortbynarrow.amounts import ZERO, apart, lowest
from shortbynarrow.checks import check_thing
from shortbynarrow.lots import count_in, least_masks, most_frequent, things_in
from shortbynarrow.rows import row_of


def sum_on(tops, lot):
    """Return the sum of integers at the things of a lot."""
    return sum([tops[thing] for thing in lot])


def short(family, lengths):
    """Return the least length of a lot."""
    row = row_of(lengths, family.things)
    return lowest(min([sum_on(row.tops, lot) for lot in family.lots]), row.bottom)


def narrow(family, widths):
    """Return the least width of a lot of the blocker."""
    row = row_of(widths, family.things)
    return lowest(narrow_top(family, row.tops, sum(row.tops)), row.bottom)


def narrow_top(family, tops, limit):
    """Return the least sum of tops on a lot of the blocker, but not more than the limit."""
    # things of width 0 cost nothing: the lots with one of them are met for nothing
    masks = [mask for mask in family.masks if all([tops[thing] > 0 for thing in things_in(mask)])]
    return _lightest(masks, tops, limit)


def _least_lots_by(lots, tops):
    least = min([sum_on(tops, lot) for lot in lots])
    return tuple([lot for lot in lots if sum_on(tops, lot) == least])


def shortest(family, lengths):
    """Return the lots of the least length, ascending."""
    return _least_lots_by(family.lots, row_of(lengths, family.things).tops)


def narrowest(family, widths):
    """Return the lots of the blocker of the least width, ascending."""
    row = row_of(widths, family.things)
    return _least_lots_by((~family).lots, row.tops)


def critical(family, lengths, thing):
    """Return the length of a thing up to which it is in some shortest lot, None without end."""
    row = row_of(lengths, family.things)
    check_thing(thing, family.things)
    if all([thing in lot for lot in family.lots]):
        return None
    held = ZERO if (thing,) in family.lots else short(family // thing, row)
    return apart(short(family - thing, row), held)


def _lightest(masks, tops, limit):
    """Return the least sum of tops on a set that meets all masks, but not more than the limit."""
    pieces = _apart_from_each_other(masks)
    if len(pieces) == 1:
        return _lightest_piece(pieces[0], tops, limit)
    total = 0
    for piece in pieces:
        if total < limit:
            total = total + _lightest_piece(piece, tops, limit - total)
    return min(total, limit)


def _lightest_piece(masks, tops, limit):
    """Do the same for masks that hang together."""
    if _surely_needed(masks, tops) >= limit:
        return limit
    bit, many = most_frequent(masks)
    if many == 1:
        return min(limit, min([tops[thing] for thing in things_in(masks[0])]))
    without = [mask for mask in masks if not mask & bit]
    price = tops[bit.bit_length() - 1]
    best = limit
    if price < best:
        best = price + _lightest(without, tops, best - price)
    cut = [mask & ~bit for mask in masks if mask & bit]
    if 0 in cut:
        return best
    return _lightest(least_masks(without + cut), tops, best)


def _apart_from_each_other(masks):
    """Return the masks in groups such that those of different groups have no thing in common."""
    groups = []
    for mask in masks:
        union, members, others = mask, [mask], []
        for group in groups:
            if group[0] & mask:
                union, members = union | group[0], members + group[1]
            else:
                others.append(group)
        groups = others + [(union, members)]
    return [group[1] for group in groups]


def _surely_needed(masks, tops):
    """Return a bound from below: the total of a packing that takes what it finds, small sets first."""
    rest = list(tops)
    total = 0
    for _, mask in sorted([(count_in(mask), mask) for mask in masks]):
        things = things_in(mask)
        weight = min([rest[thing] for thing in things])
        total = total + weight
        for thing in things:
            rest[thing] = rest[thing] - weight
    return total
