"""Parts of a family: some things left out, some held."""

from shortbynarrow.errors import Clash, Lost
from shortbynarrow.families import Family
from shortbynarrow.lots import checked_set, holds_one_of, mask_of, meets_all, things_in


def checked_sides(family, left, kept):
    """Return the two sets of a part as ascending tuples."""
    out = checked_set(left, family.things)
    inside = checked_set(kept, family.things)
    for thing in out:
        if thing in inside:
            raise Clash(thing)
    return out, inside


def _word_of_loss(family, out, inside):
    """Return "held" or "left" for a part that is lost, and None for one that is not."""
    if holds_one_of(mask_of(inside), family.masks):
        return "held"
    if meets_all(mask_of(out), family.masks):
        return "left"
    return None


def _part_of(family, out, inside):
    gone, kept = mask_of(out), mask_of(inside)
    masks = [mask & ~kept for mask in family.masks if not mask & gone]
    return Family(family.things, [things_in(mask) for mask in masks])


def part(family, left, kept):
    """Return the part with one set left out and one held."""
    out, inside = checked_sides(family, left, kept)
    word = _word_of_loss(family, out, inside)
    if word is not None:
        raise Lost(inside[-1] if word == "held" else out[-1], word)
    return _part_of(family, out, inside)


def left_out(family, things):
    """Return the part with the set left out."""
    return part(family, things, ())


def held(family, things):
    """Return the part with the set held."""
    return part(family, (), things)


def is_lost(family, left, kept):
    """Tell whether the part does not exist."""
    out, inside = checked_sides(family, left, kept)
    return _word_of_loss(family, out, inside) is not None


def subsets_of(things):
    """Return all sets of some of the things, ascending as tuples."""
    found = [()]
    for thing in reversed(list(things)):
        found = [()] + [(thing,) + rest for rest in found] + found[1:]
    return found


def parts_of(family):
    """Yield (left, kept, part) for each part by useful things that is not lost, ascending."""
    for left in subsets_of(family.useful):
        for kept in subsets_of([thing for thing in family.useful if thing not in left]):
            if _word_of_loss(family, left, kept) is None:
                yield left, kept, _part_of(family, left, kept)


def single_parts(family):
    """Return a list of (thing, word, part) for the parts by one useful thing."""
    found = []
    for thing in family.useful:
        if (thing,) not in family.lots:
            found.append((thing, "held", family // thing))
        if not all([thing in lot for lot in family.lots]):
            found.append((thing, "left", family - thing))
    return found
