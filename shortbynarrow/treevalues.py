"""The values of the family of a tree that has each name once, worked out from the leaves up."""

from shortbynarrow.amounts import ONE, over
from shortbynarrow.checks import is_between, is_list, is_whole_number
from shortbynarrow.errors import BadNumber, BadTree, OtherSize, TooMany
from shortbynarrow.rows import Row
from shortbynarrow.settling import contrary_of
from shortbynarrow.trees import MOST_DEPTH, MOST_LEAVES, Leaf, Vote, check_once
from shortbynarrow.votes import vote_cap, vote_contacts, vote_price, vote_short


def _row_for(tree, value):
    """Return the row that the value stands for, with an entry for each name of the tree."""
    check_once(tree)
    row = value if isinstance(value, Row) else Row(value)
    if len(row) <= max(tree.leaf_names):
        raise OtherSize(len(row))
    return row


def _worked_out(tree, row, rule):
    """Return the value of a tree; the rule tells that of a vote from its need and those of its branches."""
    if isinstance(tree, Leaf):
        return row[tree.name]
    values = [_worked_out(branch, row, rule) for branch in tree.branches]
    return rule(tree.need, Row.of_amounts(values))


def _vote_narrow(need, row):
    return vote_short(len(row) + 1 - need, row)


def _vote_strain(need, row):
    return over(ONE, vote_price(need, contrary_of(row)))


def tree_short(tree, lengths):
    """Return the least length of a lot."""
    return _worked_out(tree, _row_for(tree, lengths), vote_short)


def tree_narrow(tree, widths):
    """Return the least width of a lot of the blocker."""
    return _worked_out(tree, _row_for(tree, widths), _vote_narrow)


def tree_cap(tree, widths):
    """Return the greatest total of a packing."""
    return _worked_out(tree, _row_for(tree, widths), vote_cap)


def tree_price(tree, tolls):
    """Return the price."""
    return _worked_out(tree, _row_for(tree, tolls), vote_price)


def tree_contacts(tree, weights):
    """Return the contacts."""
    return _worked_out(tree, _row_for(tree, weights), vote_contacts)


def _ones_for(tree):
    return _row_for(tree, [1] * (max(tree.leaf_names) + 1))


def tree_strain(tree):
    """Return the strain."""
    return _worked_out(tree, _ones_for(tree), _vote_strain)


def tree_least(tree):
    """Return the least size."""
    return _worked_out(tree, _ones_for(tree), vote_short)[0]


def _is_need(entry):
    if not is_list(entry) or len(entry) != 2 or not is_whole_number(entry[1]):
        return False
    return is_between(entry[0], 1, entry[1])


def _check_needs(needs):
    if not is_list(needs) or not all([_is_need(entry) for entry in needs]):
        raise BadNumber("needs")
    leaves = 1
    for entry in needs:
        leaves = leaves * entry[1]
        if leaves > MOST_LEAVES:
            raise TooMany(MOST_LEAVES)
    if len(needs) > MOST_DEPTH:
        raise BadTree("depth")


def level_tree(needs):
    """Return the tree that has on each level equal votes, told by their needs and numbers of branches."""
    _check_needs(needs)
    tree = Leaf(0)
    for need, many in reversed(list(needs)):
        tree = Vote(need, [tree] * many)
    return tree.numbered()
