"""Least breaks of the two kinds, their broken corners, hubs and cores."""

from shortbynarrow.amounts import lowest, over
from shortbynarrow.breaks import broken_pair
from shortbynarrow.errors import BadFamily

LEAST_FAN = 3


class Break:
    """A least break with its broken corner x and that of its blocker, y."""

    KIND = ""

    def __init__(self, family):
        found = broken_pair(family)
        if found is None:
            raise BadFamily(0)
        self.family = family
        self.x, self.y = found
        self.size = len(family.useful)

    def ratio(self):
        """Return the strain."""
        return over(1, self.x.dot(self.y))


class FanBreak(Break):
    """A least break that is a fan on its useful things."""

    KIND = "fan"

    def __init__(self, family):
        Break.__init__(self, family)
        self.hub = hub_of(family)
        if self.hub is None:
            raise BadFamily(0)

    def ratio(self):
        """Return the strain."""
        return lowest((self.size - 1) * (self.size - 1), self.size * self.size - 3 * self.size + 3)


class EvenBreak(Break):
    """A least break of the other kind: both broken corners are even."""

    KIND = "even"

    def __init__(self, family):
        Break.__init__(self, family)
        if hub_of(family) is not None:
            raise BadFamily(0)
        self.small = family.least_size()
        self.wide = (~family).least_size()
        self.core = tuple([lot for lot in family.lots if len(lot) == self.small])

    def ratio(self):
        """Return the strain."""
        return lowest(self.small * self.wide, self.size)

    def excess(self):
        """Return by how much the product of the two least sizes is above the number of useful things."""
        return self.small * self.wide - self.size


def _fan_lots(useful, hub):
    """Return the lots of the fan on these things with the hub, ascending."""
    others = [thing for thing in useful if thing != hub]
    return tuple(sorted([tuple(sorted([hub, thing])) for thing in others] + [tuple(others)]))


def hub_of(family):
    """Return the least hub if the family is a fan on its useful things, else None."""
    useful = family.useful
    if len(useful) < LEAST_FAN or len(family.lots) != len(useful):
        return None
    for thing in useful:
        if _fan_lots(useful, thing) == family.lots:
            return thing
    return None


def read_break(family):
    """Return the least break as a FanBreak or an EvenBreak."""
    return EvenBreak(family) if hub_of(family) is None else FanBreak(family)
