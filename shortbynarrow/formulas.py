"""Formulas: trees of votes of 1 or of all, the nets that they make, and the trees of lots."""

from shortbynarrow.checks import is_between
from shortbynarrow.errors import BadNumber, BadTree, TooMany
from shortbynarrow.lots import each_blocker_mask, things_in
from shortbynarrow.nets import MOST_LINKS, MOST_NAMES, MOST_POINTS, Net
from shortbynarrow.rows import Row
from shortbynarrow.trees import MOST_LEAVES, Leaf, Vote


def _check_formula(tree):
    if isinstance(tree, Leaf):
        return
    if tree.need != 1 and tree.need != len(tree.branches):
        raise BadTree("need")
    for branch in tree.branches:
        _check_formula(branch)


def _is_chain(tree):
    """Tell whether the branches of a vote are laid one behind another; a single one is, too."""
    return tree.need == len(tree.branches)


def _inner_points(tree):
    """Return how many points stand between the two ends of a tree."""
    if isinstance(tree, Leaf):
        return 0
    between = tree.need - 1 if _is_chain(tree) else 0
    return between + sum([_inner_points(branch) for branch in tree.branches])


def net_of_tree(tree, size):
    """Return the net of a formula, in which each leaf is a link with its name."""
    _check_formula(tree)
    if not is_between(size, max(tree.leaf_names) + 1, MOST_NAMES):
        raise BadNumber("size")
    points = 2 + _inner_points(tree)
    if points > MOST_POINTS:
        raise TooMany(MOST_POINTS)
    if len(tree.leaf_names) > MOST_LINKS:
        raise TooMany(MOST_LINKS)
    return Net(points, _laid(tree, 0, points - 1, 1), size)


def _laid(tree, start, end, free):
    """Return the links of a tree between two points; the inner points have the numbers from `free` on."""
    if isinstance(tree, Leaf):
        return [(start, end, tree.name)]
    many = len(tree.branches)
    if _is_chain(tree):
        stops = [start] + list(range(free, free + many - 1)) + [end]
        free = free + many - 1
        sides = list(zip(stops, stops[1:]))
    else:
        sides = [(start, end)] * many
    links = []
    for branch, (one, other) in zip(tree.branches, sides):
        links.extend(_laid(branch, one, other, free))
        free = free + _inner_points(branch)
    return links


def _vote_over(things, need):
    """Return the vote over the leaves of some things, a leaf alone if there is but one."""
    if len(things) == 1:
        return Leaf(things[0])
    return Vote(need, [Leaf(thing) for thing in things])


def tree_of_lots(family):
    """Return the formula that asks for all things of some lot."""
    return Vote(1, [_vote_over(lot, len(lot)) for lot in family.lots])


def tree_of_blocker(family):
    """Return the formula that asks for some thing of each lot of the blocker."""
    masks = family.masks
    lots = []
    leaves = 0
    for mask in each_blocker_mask(masks):
        lots.append(things_in(mask))
        leaves = leaves + len(lots[-1])
        # the blocker may have far more lots than can be listed
        if leaves > MOST_LEAVES:
            raise BadTree("leaves")
    return Vote(len(lots), [_vote_over(lot, 1) for lot in sorted(lots)])


def _counts(family):
    return Row([len(family.lots_at(thing)) for thing in range(family.things)])


def contact_sides(family):
    """Return the rows that count at each thing the lots, and the lots of the blocker, that hold it."""
    return _counts(family), _counts(~family)
