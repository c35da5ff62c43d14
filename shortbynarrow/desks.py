"""Desks: a family and tolls that are changed deed by deed, and back."""

from shortbynarrow.blockers import is_lot_of
from shortbynarrow.checks import check_thing, is_list, is_whole_number
from shortbynarrow.contacts import contacts
from shortbynarrow.corners import MOST_USEFUL
from shortbynarrow.deeds import deed_text
from shortbynarrow.errors import (
    BadDeed,
    BadFamily,
    BadLots,
    BadNames,
    BadNumber,
    BadRow,
    EmptyLot,
    NoLots,
    NothingBack,
    TooMany,
)
from shortbynarrow.families import Family
from shortbynarrow.lots import checked_set
from shortbynarrow.plays import Play
from shortbynarrow.pricing import best_pair, price
from shortbynarrow.putting import merged
from shortbynarrow.rows import Row, row_of
from shortbynarrow.strains import strain

MOST_ON_DESK = 12


def _is_toll(entry):
    return is_whole_number(entry) and entry > 0


def _tolls_of_desk(tolls, size):
    """Return the whole row of tolls above 0 that the value stands for; None stands for 1s."""
    if tolls is None:
        return Row.ones(size)
    if isinstance(tolls, Row):
        fitting = [entry[1] == 1 and entry[0] > 0 for entry in tolls]
    elif is_list(tolls):
        fitting = [_is_toll(entry) for entry in tolls]
    else:
        raise BadRow(-1)
    if not all(fitting):
        raise BadRow(fitting.index(False))
    return row_of(tolls, size)


def _check_sizes(useful, things):
    if useful > MOST_USEFUL:
        raise TooMany(MOST_USEFUL)
    if things > MOST_ON_DESK:
        raise TooMany(MOST_ON_DESK)


class State:
    """What a desk holds at one time: family, tolls, their price, the texts of the deeds.

    `before` is the state ahead of the last deed, None if there is no deed. A state is never changed.
    """

    def __init__(self, family, tolls, texts, before):
        self.family = family
        self.tolls = tolls
        self.price = price(family, tolls)
        self.texts = texts
        self.before = before


class Desk:
    """A family with at most 7 useful things, its tolls, and the deeds that were done."""

    def __init__(self, family, *, tolls=None):
        row = _tolls_of_desk(tolls, family.things)
        _check_sizes(len(family.useful), family.things)
        self.now = State(family, row, (), None)

    @property
    def family_now(self):
        """The family."""
        return self.now.family

    @property
    def tolls_now(self):
        """The tolls."""
        return self.now.tolls

    @tolls_now.setter
    def tolls_now(self, value):
        raise BadDeed("tolls_now")

    @property
    def deeds(self):
        """The texts of the deeds, the first one first."""
        return self.now.texts

    def __iter__(self):
        return iter(self.now.texts)

    def __len__(self):
        return len(self.now.texts)

    def _done(self, family, tolls, deed):
        """Make these the family and the tolls by a deed, and return the price."""
        _check_sizes(len(family.useful), family.things)
        self.now = State(family, tolls, self.now.texts + (deed_text(deed),), self.now)
        return self.now.price

    def set_toll(self, thing, toll):
        """Give a thing another toll."""
        tolls = self.now.tolls
        check_thing(thing, len(tolls))
        if not _is_toll(toll):
            raise BadNumber("toll")
        return self._done(self.now.family, tolls.with_entry(thing, toll), ("toll", thing, toll))

    def hold(self, thing):
        """Hold a thing."""
        return self._done(self.now.family // thing, self.now.tolls, ("hold", thing))

    def leave(self, thing):
        """Leave a thing out."""
        return self._done(self.now.family - thing, self.now.tolls, ("leave", thing))

    def put_lot(self, lot):
        """Put a lot to those there are."""
        family = self.now.family
        things = checked_set(lot, family.things)
        if not things:
            raise EmptyLot(0)
        return self._done(Family(family.things, [*family.lots, things]), self.now.tolls, ("put lot", things))

    def drop_lot(self, lot):
        """Take a lot away."""
        family = self.now.family
        if not is_lot_of(family, lot):
            raise BadLots(0)
        if len(family) == 1:
            raise NoLots()
        things = tuple(sorted(lot))
        rest = [one for one in family.lots if one != things]
        return self._done(Family(family.things, rest), self.now.tolls, ("drop lot", things))

    def put(self, thing, family):
        """Put a family in for a thing; each new thing has the toll of that one."""
        outer = self.now.family
        check_thing(thing, outer.things)
        if not isinstance(family, Family):
            raise BadFamily(0)
        # a family with more than 60 things can not be made, so the sizes are asked ahead of it
        more = len(family.useful) - 1 if thing in outer.useful else 0
        _check_sizes(len(outer.useful) + more, outer.things + family.things - 1)
        families = [family if place == thing else Family.single() for place in range(outer.things)]
        tops = self.now.tolls.tops
        tolls = Row([tops[place] for place, inner in enumerate(families) for _ in range(inner.things)])
        return self._done(outer(families), tolls, ("put", thing, family))

    def merge(self, names, size):
        """Merge the things by their names; each name has the sum of the tolls of its things."""
        small = merged(self.now.family, names, size)
        if not all([name in names for name in range(size)]):
            raise BadNames(-1)
        tops = [0] * size
        for name, toll in zip(names, self.now.tolls.tops):
            tops[name] = tops[name] + toll
        return self._done(small, Row(tops), ("merge", names, size))

    def turn(self):
        """Take the blocker in place of the family."""
        return self._done(~self.now.family, self.now.tolls, ("turn",))

    def back(self):
        """Undo the last deed."""
        if self.now.before is None:
            raise NothingBack()
        self.now = self.now.before
        return self.now.price

    def price_now(self):
        """Return the price."""
        return self.now.price

    def strain_now(self):
        """Return the strain."""
        return strain(self.now.family)

    def contacts_now(self):
        """Return the contacts at the tolls as weights."""
        return contacts(self.now.family, self.now.tolls)

    def pair_now(self):
        """Return the first best pair at the tolls."""
        return best_pair(self.now.family, self.now.tolls)

    def play_now(self):
        """Return the worst play of the family, without costs."""
        return Play.worst(self.now.family)
