"""Bare plays of parts, and settled pairs of a family from those of its parts."""

from shortbynarrow.amounts import ZERO, greatest, over, times
from shortbynarrow.checks import check_thing
from shortbynarrow.corners import bound_of, check_useful
from shortbynarrow.covers import raised
from shortbynarrow.errors import BadPlay
from shortbynarrow.parts import part
from shortbynarrow.plays import Play
from shortbynarrow.rows import Row, row_of
from shortbynarrow.settling import covers_of_both, settles
from shortbynarrow.strains import worst_pair


def bare_play(family):
    """Return (left, kept, play): a bare steady play of the part, whose mean is the strain."""
    x, y = worst_pair(family)
    kept = tuple([thing for thing in family.useful if x.tops[thing] == 0])
    left = tuple([thing for thing in family.useful if y.tops[thing] == 0 and x.tops[thing] > 0])
    mean = over(1, x.dot(y))
    # outside the things that stay, at least one of the two rows is 0
    stays = Row([1 if one > 0 and two > 0 else 0 for one, two in zip(x.tops, y.tops)])
    play = Play(part(family, left, kept), (y * stays).scaled(mean), (x * stays).scaled(mean))
    return left, kept, play


def raised_pair(family, thing, word, x, y):
    """Return the settled pair of the family that comes from one of the part by a thing."""
    check_thing(thing, family.things)
    if word not in ("held", "left"):
        raise BadPlay("word")
    ours, theirs = row_of(x, family.things), row_of(y, family.things)
    small = family // thing if word == "held" else family - thing
    one, other = ours.with_entry(thing, ZERO), theirs.with_entry(thing, ZERO)
    covers_of_both(small, one, other)
    if not settles(small, one, other, Row.ones(family.things)):
        raise BadPlay("settled")
    check_useful(family)
    far = times(bound_of(len(family.useful)), one.dot(other))
    if word == "held":
        return one, other.with_entry(thing, greatest([far, raised(~family, other, thing)]))
    return one.with_entry(thing, greatest([far, raised(family, one, thing)])), other
