"""Families: lists of sets of things, none of them within another one."""

from shortbynarrow.checks import check_thing, is_between, is_list
from shortbynarrow.errors import (
    BadFamily,
    BadLots,
    BadNumber,
    EmptyLot,
    Lost,
    NoLots,
    OtherSize,
)
from shortbynarrow.lots import (
    blocker_lots,
    checked_set,
    fault_of_set,
    holds_one_of,
    least_lots,
    least_masks,
    mask_of,
    things_in,
)

MOST_THINGS = 60


def _check_lots(things, lots):
    if not is_list(lots):
        raise BadLots(-1)
    for place, lot in enumerate(lots):
        if fault_of_set(lot, things) is not None:
            raise BadLots(place)
        if len(lot) == 0:
            raise EmptyLot(place)
    if len(lots) == 0:
        raise NoLots()


def check_families(families):
    """Raise BadFamily unless the value is a list of families."""
    if not is_list(families):
        raise BadFamily(-1)
    for place, family in enumerate(families):
        if not isinstance(family, Family):
            raise BadFamily(place)


def check_put_in(things, families):
    """Raise BadFamily or OtherSize unless the value is a list of families, one for each of so many things."""
    check_families(families)
    if len(families) != things:
        raise OtherSize(len(families))


class Family:
    """A number of things and lots, sets of these things."""

    def __init__(self, things, lots):
        if not is_between(things, 1, MOST_THINGS):
            raise BadNumber("things")
        _check_lots(things, lots)
        least = least_masks([mask_of(lot) for lot in lots])
        self.things = things
        self.lots = tuple(sorted([things_in(mask) for mask in least]))
        # the same lots as integers, in the same order, for quick questions
        self.masks = tuple([mask_of(lot) for lot in self.lots])

    @classmethod
    def single(cls):
        """Return the family of one thing and one lot."""
        return cls(1, [(0,)])

    @staticmethod
    def least_of(lots):
        """Return the least ones of a list of sets, ascending, each once."""
        return least_lots(lots)

    @property
    def useful(self):
        """The set of the things that are in some lot."""
        union = 0
        for mask in self.masks:
            union = union | mask
        return things_in(union)

    def __eq__(self, other):
        return isinstance(other, Family) and self.things == other.things and self.lots == other.lots

    def __len__(self):
        return len(self.lots)

    def __contains__(self, x):
        return isinstance(x, tuple) and x in self.lots

    def __iter__(self):
        return iter(self.lots)

    def __or__(self, other):
        if other.things != self.things:
            raise OtherSize(other.things)
        return Family(self.things, [*self.lots, *other.lots])

    def __and__(self, other):
        if other.things != self.things:
            raise OtherSize(other.things)
        unions = least_masks([one | two for one in self.masks for two in other.masks])
        return Family(self.things, [things_in(mask) for mask in unions])

    def __invert__(self):
        return Family(self.things, blocker_lots(self.lots))

    def __sub__(self, other):
        check_thing(other, self.things)
        lots = [lot for lot in self.lots if other not in lot]
        if not lots:
            raise Lost(other, "left")
        return Family(self.things, lots)

    def __floordiv__(self, other):
        check_thing(other, self.things)
        if (other,) in self.lots:
            raise Lost(other, "held")
        return Family(self.things, [[thing for thing in lot if thing != other] for lot in self.lots])

    def __call__(self, families):
        """Return the family with these families put in, one for each thing."""
        check_put_in(self.things, families)
        starts = starts_of(families)
        if starts[-1] > MOST_THINGS:
            raise BadNumber("things")
        raised = [raised_lots(family, start) for family, start in zip(families, starts)]
        unions = []
        for lot in self.lots:
            unions.extend(_choices_of_lots([raised[thing] for thing in lot]))
        return Family(starts[-1], unions)

    def holds(self, things):
        """Tell whether the set holds a lot."""
        return holds_one_of(mask_of(checked_set(things, self.things)), self.masks)

    def least_size(self):
        """Return the size of the smallest lots."""
        return min([len(lot) for lot in self.lots])

    def sizes(self):
        """Return the different sizes of lots, ascending."""
        return tuple(sorted(list({len(lot): True for lot in self.lots})))

    def lots_at(self, thing):
        """Return the lots with the thing, ascending."""
        check_thing(thing, self.things)
        return tuple([lot for lot in self.lots if thing in lot])


def starts_of(families):
    """Return the numbers at which the things of put-in families begin, and behind them the number of all."""
    starts = [0]
    for family in families:
        starts.append(starts[-1] + family.things)
    return starts


def raised_lots(family, start):
    """Return the lots of a family whose things are numbered from the start on."""
    return [tuple([start + thing for thing in lot]) for lot in family.lots]


def _choices_of_lots(columns):
    """Return the unions of one lot of each of some lists of lots."""
    unions = [()]
    for lots in columns:
        unions = [union + lot for union in unions for lot in lots]
    return unions
