"""Lots that are just the shortest ones for some lengths."""

from shortbynarrow.amounts import ZERO, apart, over, plus
from shortbynarrow.blockers import is_lot_of
from shortbynarrow.checks import is_list
from shortbynarrow.errors import BadLots, NoLots
from shortbynarrow.filling import best_filling
from shortbynarrow.packings import lot_columns
from shortbynarrow.rows import Row


def _some_lots(family, lots):
    """Return the lots handed in, as they stand in the family."""
    if not is_list(lots):
        raise BadLots(-1)
    chosen = {}
    for place, lot in enumerate(lots):
        if not is_lot_of(family, lot) or tuple(sorted(lot)) in chosen:
            raise BadLots(place)
        chosen[tuple(sorted(lot))] = True
    if not chosen:
        raise NoLots()
    return [lot for lot in family.lots if lot in chosen]


def _two_sides(family, chosen):
    """Return a filling that looks for the two mixes; its prices are the lengths if there are none.

    The weights are those of the chosen lots in the first mix, then those of all lots in the second
    one. The places say: at no thing is the second mix above the first one; the first one has no
    greater sum; the lots in the second one that are not chosen have at most the sum 1.
    """
    things = family.things
    first = [[-entry for entry in column] + [1, 0] for column in lot_columns(chosen, things)]
    strange = [0 if lot in chosen else 1 for lot in family.lots]
    second = [
        column + [-1, other] for column, other in zip(lot_columns(family.lots, things), strange)
    ]
    room = Row([0] * things + [0, 1])
    return best_filling(first + second, [0] * len(first) + strange, room)


def alone(family, lots):
    """Return lengths at which the shortest lots are just these, None if there are none."""
    total, _, prices = _two_sides(family, _some_lots(family, lots))
    if total != ZERO:
        return None
    return Row(prices.tops[:family.things], prices.bottom)


def two_mixes(family, lots):
    """Return None if these lots are alone, else two mixes that show that they are not."""
    chosen = _some_lots(family, lots)
    total, weights, _ = _two_sides(family, chosen)
    if total == ZERO:
        return None
    first, second = list(weights[:len(chosen)]), list(weights[len(chosen):])
    whole_sum = _sum_of(second)
    # the first mix may have the lesser sum: more of any lot does no harm
    first[0] = plus(first[0], apart(whole_sum, _sum_of(first)))
    return _mix_of(chosen, first, whole_sum), _mix_of(family.lots, second, whole_sum)


def _sum_of(weights):
    total = ZERO
    for weight in weights:
        total = plus(total, weight)
    return total


def _mix_of(lots, weights, whole_sum):
    pairs = list(zip(lots, weights))
    return tuple([(lot, over(weight, whole_sum)) for lot, weight in pairs if weight != ZERO])
