"""Votes: the values of the family of all sets of k of n things, in closed form."""

from math import lcm

from shortbynarrow.amounts import least, lowest
from shortbynarrow.checks import is_between, is_whole_number
from shortbynarrow.corners import MOST_USEFUL
from shortbynarrow.errors import BadNumber, TooMany
from shortbynarrow.families import MOST_THINGS
from shortbynarrow.parts import subsets_of
from shortbynarrow.rows import Row


def _row_of_vote(k, value):
    """Return the row that the value stands for, with at least k entries."""
    if not is_whole_number(k) or k < 1:
        raise BadNumber("k")
    row = value if isinstance(value, Row) else Row(value)
    if k > len(row):
        raise BadNumber("k")
    return row


def _check_vote(k, n):
    if not is_between(k, 1, MOST_THINGS):
        raise BadNumber("k")
    if not is_between(n, k, MOST_THINGS):
        raise BadNumber("n")


def _sums_of_least(row):
    """Return the sums of the 0, 1, 2, .. least entries, over the bottom of the row."""
    sums = [0]
    for top in sorted(row.tops):
        sums.append(sums[-1] + top)
    return sums


def _rises(k, n):
    most = min(k, n + 1 - k)
    return [min(place // 2 + 1, most) for place in range(n)]


def vote_short(k, lengths):
    """Return the least length of a set of k."""
    row = _row_of_vote(k, lengths)
    return lowest(_sums_of_least(row)[k], row.bottom)


def vote_cap(k, widths):
    """Return the greatest total of a packing of the sets of k."""
    row = _row_of_vote(k, widths)
    sums = _sums_of_least(row)
    return least([lowest(sums[len(row) - i], row.bottom * (k - i)) for i in range(k)])


def vote_price(k, tolls):
    """Return the price of the family of the sets of k."""
    row = _row_of_vote(k, tolls)
    sums = _sums_of_least(row)
    prices = []
    product = 0
    for place, step in enumerate(_rises(k, len(row))):
        product = product + step
        prices.append(lowest(sums[place + 1], row.bottom * product))
    return least(prices)


def vote_contacts(k, weights):
    """Return the contacts of the family of the sets of k."""
    row = _row_of_vote(k, weights)
    falling = sorted(row.tops, reverse=True)
    total = sum([top * step for top, step in zip(falling, _rises(k, len(row)))])
    return lowest(total, row.bottom)


def vote_strain(k, n):
    """Return the strain of the family of the sets of k of n."""
    _check_vote(k, n)
    return lowest(k * (n + 1 - k), n)


def vote_rises(k, n):
    """Return the rises of k and n."""
    _check_vote(k, n)
    return tuple(_rises(k, n))


def vote_product(k, n, m):
    """Return the vote product of k, n and m, the sum of the first m rises."""
    _check_vote(k, n)
    if not is_between(m, 1, n):
        raise BadNumber("m")
    return sum(_rises(k, n)[:m])


def vote_corners(k, n):
    """Return the list of the corners of the family of the sets of k of n, ascending."""
    _check_vote(k, n)
    if n > MOST_USEFUL:
        raise TooMany(MOST_USEFUL)
    if k == n:
        return [Row.of_set([thing], n) for thing in reversed(range(n))]
    bottom = 1
    for many in range(1, k + 1):
        bottom = lcm(bottom, many)
    zeros = [things for things in subsets_of(list(range(n))) if len(things) < k]
    tops = [[0 if e in things else bottom // (k - len(things)) for e in range(n)] for things in zeros]
    return [Row(row, bottom) for row in sorted(tops)]
