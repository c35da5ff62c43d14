"""Families of couples: odd rings, cliques and hueings, and families joined."""

from shortbynarrow.errors import BadFamily, BadNumber, NotCouples
from shortbynarrow.families import MOST_THINGS, Family, raised_lots, starts_of
from shortbynarrow.lengths import narrow
from shortbynarrow.lots import count_in, mask_of, things_in
from shortbynarrow.rows import Row


def is_couples(family):
    """Tell whether each lot has two things."""
    return family.sizes() == (2,)


def check_couples(family):
    """Raise NotCouples with the first lot that has not two things."""
    for lot in family.lots:
        if len(lot) != 2:
            raise NotCouples(lot)


def check_no_single(family):
    """Raise BadFamily(0) if some lot has only one thing."""
    if family.least_size() == 1:
        raise BadFamily(0)


def _neighbours(family):
    """Return for each thing the mask of the things that are a lot with it."""
    masks = [0] * family.things
    for one, other in family.lots:
        masks[one] = masks[one] | (1 << other)
        masks[other] = masks[other] | (1 << one)
    return masks


def odd_ring(family):
    """Return the first one of the shortest odd rings, None if there is none."""
    check_couples(family)
    beside = _neighbours(family)
    best = None
    for start in family.useful:
        # a ring is looked for at its least thing, so no lesser thing is walked over
        walks = _walks_to(start, [mask >> start << start for mask in beside])
        length = walks[1][start]
        if length is not None and (best is None or length < len(best)):
            best = _first_ring(start, beside, walks)
    return best


def _walks_to(start, beside):
    """Return two lists: for each thing the length of the shortest even, odd walk to the start, or None."""
    walks = [[None] * len(beside), [None] * len(beside)]
    walks[0][start] = 0
    ends = [start]
    length = 0
    while ends:
        length = length + 1
        lengths = walks[length % 2]
        reached = 0
        for end in ends:
            reached = reached | beside[end]
        ends = [thing for thing in things_in(reached) if lengths[thing] is None]
        for thing in ends:
            lengths[thing] = length
    return walks


def _first_ring(start, beside, walks):
    """Return the first closed walk of the least odd length; as there is no shorter one, it is a ring."""
    ring = [start]
    left = walks[1][start]
    while left > 1:
        left = left - 1
        lengths = walks[left % 2]
        near = [thing for thing in things_in(beside[ring[-1]]) if lengths[thing] is not None]
        ring.append([thing for thing in near if lengths[thing] <= left][0])
    return tuple(ring)


def cliques(family):
    """Return the greatest sets of things each two of which are a lot, ascending."""
    check_couples(family)
    found = _cliques_within(0, mask_of(family.useful), 0, _neighbours(family))
    return tuple(sorted([things_in(mask) for mask in found]))


def _cliques_within(clique, free, done, beside):
    """Return the greatest cliques made of a clique and things of `free`.

    The things of `free` and of `done` are those with which it stays a clique; cliques with a thing of
    `done` are already found.
    """
    if not free:
        return [] if done else [clique]
    # a greatest clique has a thing that is no neighbour of this one, or the thing itself
    main = _best_connected(free | done, free, beside)
    asked = things_in(free & ~beside[main])
    found = []
    for thing in asked:
        bit, near = 1 << thing, beside[thing]
        found.extend(_cliques_within(clique | bit, free & near, done & near, beside))
        free, done = free & ~bit, done | bit
    return found


def _best_connected(things, free, beside):
    """Return the one of the things that has the most neighbours in `free`."""
    return max([(count_in(beside[thing] & free), thing) for thing in things_in(things)])[1]


def greatest_quiet(family):
    """Return the greatest number of useful things in a set that holds no lot."""
    return len(family.useful) - narrow(family, Row.ones(family.things))[0]


def hueing(family):
    """Return the useful things parted into quiet sets, as few as there can be."""
    check_no_single(family)
    everything = mask_of(family.useful)
    quiet = [everything & ~mask for mask in (~family).masks]
    ways = {0: ()}
    while everything not in ways:
        ways = _with_one_more(ways, everything, quiet)
    # each part has the least thing that the parts ahead of it leave, so they are ascending
    return tuple([things_in(mask) for mask in ways[everything]])


def _with_one_more(ways, everything, quiet):
    """Return the sets that are parted by one quiet set more, each with the masks of its parts."""
    longer = {}
    for mask, chosen in ways.items():
        rest = everything & ~mask
        # some quiet set has the least thing that is left
        first = rest & -rest
        for one in quiet:
            made = mask | one
            if one & first and made not in longer:
                longer[made] = chosen + (one & rest,)
    return longer


def joined(*families):
    """Return the families side by side, with all pairs of things of two different ones as lots, too."""
    if len(families) == 0:
        raise BadNumber("families")
    for place, family in enumerate(families):
        if not isinstance(family, Family):
            raise BadFamily(place)
        check_couples(family)
    starts = starts_of(families)
    if starts[-1] > MOST_THINGS:
        raise BadNumber("things")
    lots = []
    for family, start in zip(families, starts):
        lots.extend(raised_lots(family, start))
        end = start + family.things
        lots.extend([(one, other) for one in range(start, end) for other in range(end, starts[-1])])
    return Family(starts[-1], lots)
