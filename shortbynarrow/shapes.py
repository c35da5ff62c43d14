"""Families of well-known shapes."""

from shortbynarrow.checks import is_between, is_whole_number
from shortbynarrow.errors import BadNumber
from shortbynarrow.families import MOST_THINGS, Family


def _sets_of_size(size, many):
    """Return all sets of so many of the things 0, 1, .., ascending."""
    found = [()]
    for place in range(size):
        # behind the new thing there must be room for those that are still missing
        last = many - (size - place)
        found = [
            one + (thing,)
            for one in found
            for thing in range(one[-1] + 1 if one else 0, last + 1)
        ]
    return found


def votes(k, n):
    """Return the family of all sets of k of n things."""
    if not is_between(k, 1, MOST_THINGS):
        raise BadNumber("k")
    if not is_between(n, k, MOST_THINGS):
        raise BadNumber("n")
    return Family(n, _sets_of_size(k, n))


def ring(n):
    """Return the family of the pairs of neighbours in a ring of n things."""
    if not is_between(n, 3, MOST_THINGS):
        raise BadNumber("n")
    return Family(n, [[thing, (thing + 1) % n] for thing in range(n)])


def fan(m):
    """Return the family of the pairs of 0 and another thing, and of all things but 0."""
    if not is_between(m, 3, MOST_THINGS):
        raise BadNumber("m")
    return Family(m, [[0, thing] for thing in range(1, m)] + [list(range(1, m))])


def four_points():
    """Return the family of the three pairs at each of four points, the six pairs as things."""
    return Family(6, [(0, 1, 2), (0, 3, 4), (1, 3, 5), (2, 4, 5)])


def seven_lines():
    """Return the family of the seven lines of three of seven things."""
    return Family(7, [[thing, (thing + 1) % 7, (thing + 3) % 7] for thing in range(7)])


def block(l, w):
    """Return the family of all sets with one thing of each of l rows of w things."""
    if not is_between(l, 1, MOST_THINGS):
        raise BadNumber("l")
    if not is_whole_number(w) or w < 1 or l * w > MOST_THINGS:
        raise BadNumber("w")
    lots = [()]
    for row in range(l):
        lots = [lot + (row * w + place,) for lot in lots for place in range(w)]
    return Family(l * w, lots)
