"""The price of a family at tolls: the least sum of a pair of covers, one on each side."""

from shortbynarrow.amounts import lowest, over, times
from shortbynarrow.corners import corners_of
from shortbynarrow.lengths import narrow, short
from shortbynarrow.products import tolls_of
from shortbynarrow.rows import Row, over_one_bottom, row_of


class CornerPairs:
    """All corners of a family and of its blocker, with the sums of all their pairs at some tolls.

    `sums` has a list for each corner of the family, with an integer for each corner of the blocker;
    all these integers are over one bottom.
    """

    def __init__(self, family, tolls):
        self.ours = corners_of(family)
        self.theirs = corners_of(~family)
        one_side, bottom = over_one_bottom(self.ours)
        other_side, other_bottom = over_one_bottom(self.theirs)
        weighted = [[top * toll for top, toll in zip(tops, tolls.tops)] for tops in one_side]
        self.sums = [[_product(one, other) for other in other_side] for one in weighted]
        self.bottom = bottom * other_bottom * tolls.bottom

    def least_sum(self):
        """Return the least one of the sums, over the bottom."""
        return min([min(sums) for sums in self.sums])

    def best(self):
        """Return the list of the pairs with the least sum, in their order."""
        least = self.least_sum()
        found = []
        for ours, sums in zip(self.ours, self.sums):
            found.extend([(ours, theirs) for theirs, top in zip(self.theirs, sums) if top == least])
        return found


def _product(one, other):
    return sum([first * second for first, second in zip(one, other)])


def price(family, tolls):
    """Return the least sum of a pair of the family at the tolls."""
    pairs = CornerPairs(family, row_of(tolls, family.things))
    return lowest(pairs.least_sum(), pairs.bottom)


def best_pairs(family, tolls):
    """Return the list of all pairs of corners with the least sum at the tolls."""
    pairs = CornerPairs(family, row_of(tolls, family.things))
    return pairs.best()


def best_pair(family, tolls):
    """Return the first pair of corners with the least sum at the tolls."""
    return best_pairs(family, tolls)[0]


def sum_of_pair(x, y, tolls):
    """Return the sum of the products of the entries of three rows."""
    one = x if isinstance(x, Row) else Row(x)
    other = row_of(y, len(one))
    return (one * other).dot(row_of(tolls, len(one)))


def price_limit(family, lengths, widths, *, tolls=None):
    """Return the sum of toll times length times width over short times narrow, None if that is zero."""
    lengths_row = row_of(lengths, family.things)
    widths_row = row_of(widths, family.things)
    total = (lengths_row * widths_row).dot(tolls_of(tolls, family.things))
    return over(total, times(short(family, lengths_row), narrow(family, widths_row)))
