"""Plays of the meeting game: each side lays at least a mix of its lots."""

from shortbynarrow.amounts import ONE, at_most, over
from shortbynarrow.errors import BadPlay
from shortbynarrow.filling import best_filling
from shortbynarrow.mixes import mix_under
from shortbynarrow.packings import cap, lot_columns
from shortbynarrow.pricing import best_pair, sum_of_pair
from shortbynarrow.rows import Row, row_of
from shortbynarrow.settling import contrary_of, covers_of_both, positive_or_ones, settles


class Play:
    """Two rows, at least a mix of the family and of its blocker, and costs."""

    def __init__(self, family, ours, theirs, *, costs=None):
        self.family = family
        self.ours = row_of(ours, family.things)
        self.theirs = row_of(theirs, family.things)
        self.costs = positive_or_ones(costs, family.things)
        if not at_most(ONE, cap(family, self.ours)):
            raise BadPlay("ours")
        if not at_most(ONE, cap(~family, self.theirs)):
            raise BadPlay("theirs")

    @classmethod
    def worst(cls, family, *, costs=None):
        """Return the steady play with the greatest mean that comes from the first best pair."""
        row = positive_or_ones(costs, family.things)
        x, y = best_pair(family, contrary_of(row))
        ours, theirs = _rows_of_play(x, y, row)
        return cls(family, ours, theirs, costs=row)

    @classmethod
    def of_pair(cls, family, x, y, *, costs=None):
        """Return the steady play of a settled pair at the tolls 1 over the costs."""
        one, other = row_of(x, family.things), row_of(y, family.things)
        row = positive_or_ones(costs, family.things)
        covers_of_both(family, one, other)
        if not settles(family, one, other, contrary_of(row)):
            raise BadPlay("settled")
        ours, theirs = _rows_of_play(one, other, row)
        return cls(family, ours, theirs, costs=row)

    def __eq__(self, other):
        if not isinstance(other, Play):
            return False
        return (self.family == other.family and self.ours == other.ours
                and self.theirs == other.theirs and self.costs == other.costs)

    def mean(self):
        """Return the sum of cost times both rows."""
        return sum_of_pair(self.ours, self.theirs, self.costs)

    def better(self):
        """Return ("ours" or "theirs", lot) for the first lot that would lower the mean, None if there is none."""
        mean = self.mean()
        lot = _first_below(self.family.lots, self.costs * self.theirs, mean)
        if lot is not None:
            return "ours", lot
        lot = _first_below((~self.family).lots, self.costs * self.ours, mean)
        return None if lot is None else ("theirs", lot)

    def is_steady(self):
        """Tell whether no lot in place of a row would lower the mean."""
        return self.better() is None

    def is_bare(self):
        """Tell whether both rows are exactly those of mixes."""
        return _is_mix(self.family, self.ours) and _is_mix(~self.family, self.theirs)

    def mixes(self):
        """Return a mix of the family and one of its blocker that the rows are at least."""
        return mix_under(self.family, self.ours), mix_under(~self.family, self.theirs)

    def pair_of(self):
        """Return the settled pair (x, y) of a steady play."""
        if not self.is_steady():
            raise BadPlay("steady")
        share = over(ONE, self.mean())
        return (self.costs * self.theirs).scaled(share), (self.costs * self.ours).scaled(share)


def _rows_of_play(x, y, costs):
    """Return the two rows of the play of a settled pair at the tolls 1 over the costs."""
    tolls = contrary_of(costs)
    mean = over(ONE, sum_of_pair(x, y, tolls))
    return (y * tolls).scaled(mean), (x * tolls).scaled(mean)


def _first_below(lots, row, mean):
    """Return the first lot on which the row has less than the mean, None if there is none."""
    for lot in lots:
        if not at_most(mean, row.at(lot)):
            return lot
    return None


def _is_mix(family, row):
    """Tell whether the row is exactly that of a mix of lots."""
    columns = [column + [1] for column in lot_columns(family.lots, family.things)]
    room = Row([*row.tops, row.bottom], row.bottom)
    # a total as great as the whole room is reached only if no place and no weight is left over
    gains = [len(lot) + 1 for lot in family.lots]
    return best_filling(columns, gains, room)[0] == room.total()
