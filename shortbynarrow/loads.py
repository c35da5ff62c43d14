"""Loads: what the pairs of corners of a family lay on each thing, and how the price changes by them."""

from shortbynarrow.amounts import greatest, least, times
from shortbynarrow.checks import check_thing, is_list
from shortbynarrow.corners import corners_of, spread
from shortbynarrow.cornerput import row_at
from shortbynarrow.errors import BadNumber, BadRow
from shortbynarrow.pricing import best_pairs
from shortbynarrow.rows import Row, over_one_bottom, row_of


def _useful_tops(corners, useful):
    """Return the entries of corners at the useful things, as integers over one bottom, and this bottom."""
    tops, bottom = over_one_bottom(corners)
    return [[row[thing] for thing in useful] for row in tops], bottom


def _loads_as_tops(family):
    """Return the loads at the useful things, as ascending tuples of integers, each once, and their bottom."""
    ours, bottom = _useful_tops(corners_of(family), family.useful)
    theirs, other_bottom = _useful_tops(corners_of(~family), family.useful)
    different = {}
    for one in ours:
        for other in theirs:
            different[tuple([first * second for first, second in zip(one, other)])] = True
    return sorted(list(different)), bottom * other_bottom


def _rows_of_tops(family, loads, bottom):
    useful = family.useful
    return [Row(spread(tops, useful, family.things), bottom) for tops in loads]


def loads_of(family):
    """Return the list of the loads of all pairs of corners, ascending."""
    loads, bottom = _loads_as_tops(family)
    return _rows_of_tops(family, loads, bottom)


def lean_loads(family):
    """Return the list of the loads that no other load is at most, ascending."""
    loads, bottom = _loads_as_tops(family)
    lean = []
    for load in loads:
        # a load that is at most this one stands before it, and so does a lean one below that
        if not _has_one_below(load, lean):
            lean.append(load)
    return _rows_of_tops(family, lean, bottom)


def _has_one_below(load, others):
    """Tell whether one of the other loads is at most this one."""
    for other in others:
        if _is_below(other, load):
            return True
    return False


def _is_below(one, other):
    for first, second in zip(one, other):
        if first > second:
            return False
    return True


def price_by(loads, tolls):
    """Return the least product of a load with the tolls."""
    if not is_list(loads):
        raise BadRow(-1)
    if len(loads) == 0:
        raise BadNumber("loads")
    rows = []
    for place in range(len(loads)):
        row = row_at(loads, place)
        rows.append(row_of(row, len(rows[0]) if rows else len(row)))
    checked = row_of(tolls, len(rows[0]))
    return least([row.dot(checked) for row in rows])


def _best_loads_at(family, tolls, thing):
    """Return the entries at the thing of the loads of the best pairs."""
    row = row_of(tolls, family.things)
    check_thing(thing, family.things)
    return [times(x[thing], y[thing]) for x, y in best_pairs(family, row)]


def rise(family, tolls, thing):
    """Return by how much the price rises, for each bit that the toll of the thing rises at first."""
    return least(_best_loads_at(family, tolls, thing))


def greatest_rise(family, tolls, thing):
    """Return by how much the price falls, for each bit that the toll of the thing falls at first."""
    return greatest(_best_loads_at(family, tolls, thing))
