"""Contacts: the least weighted count with which a family has a price of at least 1."""

from shortbynarrow.amounts import ONE, ZERO, apart, at_most, plus, times
from shortbynarrow.corners import check_useful, spread
from shortbynarrow.couples import check_couples
from shortbynarrow.errors import TooMany
from shortbynarrow.filling import best_filling
from shortbynarrow.loads import lean_loads
from shortbynarrow.pricing import price
from shortbynarrow.products import tolls_of
from shortbynarrow.rays import corner_tops
from shortbynarrow.rows import Row, row_of

MOST_FOR_LEAN_ROWS = 5


def is_enough(family, row):
    """Tell whether the price at the row is 1 or more."""
    return at_most(ONE, price(family, row))


class LoadWeights:
    """The greatest sum of amounts on lean loads within the weights, and a row that shows it.

    A load is put in as its tops, so an amount on it is its bottom times what the filling says.
    """

    def __init__(self, family, weights):
        row = tolls_of(weights, family.things)
        self.loads = lean_loads(family)
        useful = family.useful
        columns = [[load.tops[thing] for thing in useful] for load in self.loads]
        room = Row([row.tops[thing] for thing in useful], row.bottom)
        found = best_filling(columns, [load.bottom for load in self.loads], room)
        self.most = found[0]
        self.shares = found[1]
        self.row = Row(spread(found[2].tops, useful, family.things), found[2].bottom)


def contacts(family, weights=None):
    """Return the least sum of weight times entry over the rows that are enough."""
    return LoadWeights(family, weights).most


def enough_row(family, weights=None):
    """Return a lean row with this sum."""
    return LoadWeights(family, weights).row


def pair_weights(family, weights=None):
    """Return amounts on lean loads that fit into the weights and have this sum."""
    found = LoadWeights(family, weights)
    pairs = list(zip(found.loads, found.shares))
    return tuple([(load, times(load.bottom, share)) for load, share in pairs if share != ZERO])


def lean_rows(family):
    """Return the list of all lean rows, ascending."""
    if len(family.useful) > MOST_FOR_LEAN_ROWS:
        raise TooMany(MOST_FOR_LEAN_ROWS)
    useful = family.useful
    conditions = [[load.tops[thing] for thing in useful] + [-load.bottom] for load in lean_loads(family)]
    return [Row(spread(tops, useful, family.things), bottom) for tops, bottom in corner_tops(conditions)]


def least_links(family):
    """Return the least integer not below the contacts."""
    top, bottom = contacts(family)
    return (top + bottom - 1) // bottom


def contact_mix(family):
    """Return a mix of quiet sets that shows the contacts of a family of couples."""
    check_couples(family)
    check_useful(family)
    useful = family.useful
    quiet = [tuple([e for e in useful if e not in lot]) for lot in (~family).lots]
    weights = list(_best_mix(quiet, useful))
    total = ZERO
    for weight in weights:
        total = plus(total, weight)
    # more of any set does no harm
    weights[0] = plus(weights[0], apart(ONE, total))
    return tuple(sorted([(one, weight) for one, weight in zip(quiet, weights) if weight != ZERO]))


def _best_mix(quiet, useful):
    """Return weights of quiet sets, of sum at most 1, for which twice the weight of each thing, but at
    most 1, has the greatest sum over the things.

    Behind the sets each thing has a column with what it counts. The places say: it counts at most twice
    its weight; it counts at most 1; the weights have at most the sum 1.
    """
    many = len(useful)
    sets = [[-2 if e in one else 0 for e in useful] + [0] * many + [1] for one in quiet]
    units = [[1 if e == thing else 0 for e in useful] for thing in useful]
    room = Row([0] * many + [1] * (many + 1))
    gains = [0] * len(sets) + [1] * many
    return best_filling(sets + [unit + unit + [0] for unit in units], gains, room)[1][:len(sets)]
