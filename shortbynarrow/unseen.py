"""Prices and pairs at tolls that are known only as stretches."""

from shortbynarrow.amounts import ZERO, amount, at_most, greatest, is_amount, lowest
from shortbynarrow.errors import BadAmount, OtherSize
from shortbynarrow.loads import lean_loads
from shortbynarrow.pricing import best_pairs, price, sum_of_pair
from shortbynarrow.rows import Row, over_one_bottom, row_of
from shortbynarrow.settling import covers_of_both


def _check_stretches(family, stretches):
    if len(stretches) != family.things:
        raise OtherSize(len(stretches))


def _product(one, other):
    return sum([first * second for first, second in zip(one, other)])


def price_ends(family, stretches):
    """Return the least and the greatest price at tolls that agree."""
    _check_stretches(family, stretches)
    return price(family, stretches.lows()), price(family, stretches.highs())


def row_with_price(family, stretches, value):
    """Return the first row on the straight way from the lows to the highs with this price."""
    _check_stretches(family, stretches)
    if not is_amount(value):
        raise BadAmount("value")
    least, most = price_ends(family, stretches)
    wanted = amount(value)
    if not at_most(least, wanted) or not at_most(wanted, most):
        raise BadAmount("value")
    part, whole = _first_step(family, stretches, wanted)
    return Row([low * whole + part * (high - low) for low, high in stretches.ends], whole)


def _first_step(family, stretches, wanted):
    """Return the least part of the straight way behind which each load has the sum that is wanted."""
    lows = stretches.lows().tops
    ways = [high - low for low, high in stretches.ends]
    steps = [ZERO]
    for load in lean_loads(family):
        missing = wanted[0] * load.bottom - wanted[1] * _product(load.tops, lows)
        if missing > 0:
            steps.append(lowest(missing, wanted[1] * _product(load.tops, ways)))
    return greatest(steps)


def _end_tops(stretches, load, other):
    """Return the end row of a load against another one, both as integers over one bottom."""
    rows = list(zip(stretches.ends, load, other))
    return [high if one > two else low for (low, high), one, two in rows]


def end_row(family, stretches, load, other):
    """Return the row that agrees at which the one row is above the other one most."""
    _check_stretches(family, stretches)
    rows = [row_of(load, family.things), row_of(other, family.things)]
    tops = over_one_bottom(rows)[0]
    return Row(_end_tops(stretches, tops[0], tops[1]))


def _worst_end(stretches, load, others):
    """Return by how much a load may be above the price, and the first end row at which it is.

    `others` are the lean loads, ascending.
    """
    tops, bottom = over_one_bottom([load, *others])
    best, worst = None, None
    for other in tops[1:]:
        end = _end_tops(stretches, tops[0], other)
        excess = _product(tops[0], end) - _product(other, end)
        if best is None or excess > best:
            best, worst = excess, end
    return lowest(best, bottom), worst


def _worst_of_pair(family, stretches, x, y):
    """Return the regret of a pair and its worst row."""
    _check_stretches(family, stretches)
    ours, theirs = row_of(x, family.things), row_of(y, family.things)
    covers_of_both(family, ours, theirs)
    return _worst_end(stretches, ours * theirs, lean_loads(family))


def regret(family, stretches, x, y):
    """Return by how much the sum of a pair may be above the price."""
    return _worst_of_pair(family, stretches, x, y)[0]


def worst_row(family, stretches, x, y):
    """Return a row that agrees at which the sum of a pair is the regret above the price."""
    return Row(_worst_of_pair(family, stretches, x, y)[1])


def is_safe(family, stretches, x, y):
    """Tell whether the sum of a pair is the price at each row that agrees."""
    return regret(family, stretches, x, y) == ZERO


def safe_pairs(family, stretches):
    """Return the list of all safe pairs of corners."""
    _check_stretches(family, stretches)
    highs = stretches.highs()
    most = price(family, highs)
    lean = lean_loads(family)
    safe = {}
    found = []
    for x, y in best_pairs(family, stretches.lows()):
        if sum_of_pair(x, y, highs) == most:
            load = x * y
            key = (load.tops, load.bottom)
            # many pairs have one load
            if key not in safe:
                safe[key] = _worst_end(stretches, load, lean)[0] == ZERO
            if safe[key]:
                found.append((x, y))
    return found
