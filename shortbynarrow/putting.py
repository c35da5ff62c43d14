"""Families put in for things, merged and renamed."""

from shortbynarrow.checks import is_between, is_list
from shortbynarrow.errors import BadNames, BadNumber, BadThing
from shortbynarrow.families import MOST_THINGS, Family, check_families, starts_of


def put_in(family, families):
    """Return the family with these families put in, one for each thing."""
    return family(families)


def place_of(families, e, f):
    """Return the number that the thing f of the family at place e gets where the families are put in."""
    check_families(families)
    if not is_between(e, 0, len(families) - 1):
        raise BadThing(e)
    if not is_between(f, 0, families[e].things - 1):
        raise BadThing(f)
    return starts_of(families)[e] + f


def _check_names(names, many, size):
    if not is_list(names) or len(names) != many:
        raise BadNames(-1)
    for place, name in enumerate(names):
        if not is_between(name, 0, size - 1):
            raise BadNames(place)


def merged(family, names, size):
    """Return the family on size things in which each thing goes by its name."""
    if not is_between(size, 1, MOST_THINGS):
        raise BadNumber("size")
    _check_names(names, family.things, size)
    lots = [list({names[thing]: True for thing in lot}) for lot in family.lots]
    return Family(size, lots)


def _put_into_votes(need, families):
    """Return the families put into the family of all sets of 1, or of all, of as many things."""
    if len(families) == 0:
        raise BadNumber("families")
    check_families(families)
    if len(families) > MOST_THINGS:
        raise BadNumber("things")
    everything = list(range(len(families)))
    lots = [[thing] for thing in everything] if need == 1 else [everything]
    outer = Family(len(families), lots)
    return outer(families)


def beside(*families):
    """Return the family whose lots are those of each of the families, side by side."""
    return _put_into_votes(1, families)


def both(*families):
    """Return the family whose lots are unions of a lot of each of the families, side by side."""
    return _put_into_votes(len(families), families)


def renamed(family, names):
    """Return the family in which the thing e is called names[e]."""
    _check_names(names, family.things, family.things)
    seen = {}
    for place, name in enumerate(names):
        if name in seen:
            raise BadNames(place)
        seen[name] = True
    return Family(family.things, [[names[thing] for thing in lot] for lot in family.lots])
