"""Least breaks: families that are not calm, though all their proper parts are."""

from shortbynarrow.amounts import ONE
from shortbynarrow.corners import broken_corners, check_useful
from shortbynarrow.parts import single_parts
from shortbynarrow.strains import is_calm, strain


def _is_full(family, corners):
    """Tell whether no one of the corners has 0 at a useful thing."""
    return all([len(corner.support()) == len(family.useful) for corner in corners])


def broken_pair(family):
    """Return the two broken corners (x, y) of a least break and its blocker, None for another family."""
    ours = broken_corners(family)
    if not ours or not _is_full(family, ours):
        return None
    theirs = broken_corners(~family)
    return (ours[0], theirs[0]) if _is_full(family, theirs) else None


def is_least_break(family):
    """Tell whether the family is a least break."""
    return broken_pair(family) is not None


def find_break(family):
    """Return (left, kept, part) for a part that is a least break, None if the family is calm."""
    if is_calm(family):
        return None
    left, kept, small = [], [], family
    step = _first_break(small)
    while step is not None:
        thing, word, small = step
        if word == "held":
            kept.append(thing)
        else:
            left.append(thing)
        step = _first_break(small)
    return tuple(sorted(left)), tuple(sorted(kept)), small


def _first_break(family):
    """Return the first single part (thing, word, part) that is not calm, None if all are calm."""
    for thing, word, small in single_parts(family):
        if not is_calm(small):
            return thing, word, small
    return None


def breaking_singles(family):
    """Return a list of (thing, word, strain) for the single parts that are not calm."""
    check_useful(family)
    found = [(thing, word, strain(small)) for thing, word, small in single_parts(family)]
    return [entry for entry in found if entry[2] != ONE]
