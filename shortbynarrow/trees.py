"""Trees: votes over votes, down to leaves that bear names of things."""

from shortbynarrow.checks import is_between, is_list
from shortbynarrow.errors import BadNumber, BadTree, NotOnce, TooMany
from shortbynarrow.families import MOST_THINGS, Family
from shortbynarrow.lots import checked_set, count_in, things_in
from shortbynarrow.rows import Row

MOST_LEAVES = 60
MOST_DEPTH = 30
MOST_DIFFERENT = 12
MOST_LOTS = 200


class Tree:
    """What leaves and votes have in common.

    Both keep the names of their leaves from the left, their height, and a code: integers that tell the
    whole tree from the top down.
    """

    def __init__(self):
        raise BadTree("tree")

    @property
    def names(self):
        """The different names of the leaves, ascending."""
        return tuple(sorted(list({name: True for name in self.leaf_names})))

    def __call__(self, things):
        """Tell whether the tree says yes to a set of names."""
        return _says_yes(self, checked_set(things, MOST_THINGS))

    def __invert__(self):
        return _other_tree(self)

    def __eq__(self, other):
        return isinstance(other, Tree) and self.code == other.code

    def leaves(self):
        """Return the names of the leaves from the left."""
        return self.leaf_names

    def is_once(self):
        """Tell whether no name is on two leaves."""
        return len(self.names) == len(self.leaf_names)

    def depth(self):
        """Return the depth: 0 for a leaf, 1 more than that of the deepest branch for a vote."""
        return self.height

    def family_on(self, size):
        """Return the family of the least sets that the tree says yes to."""
        _check_names_below(self, size)
        names = self.names
        if len(names) > MOST_DIFFERENT:
            raise TooMany(MOST_DIFFERENT)
        least = _least_yes(self, names)
        if count_in(least) > MOST_LOTS:
            raise TooMany(MOST_LOTS)
        return Family(size, [[names[place] for place in things_in(mask)] for mask in things_in(least)])

    def leaf_row(self, size):
        """Return the row that has at each name the number of leaves with it."""
        _check_names_below(self, size)
        counts = [0] * size
        for name in self.leaf_names:
            counts[name] = counts[name] + 1
        return Row(counts)

    def numbered(self):
        """Return the tree with the names 0, 1, 2, .. from the left."""
        return _numbered_from(self, 0)

    def lot_count(self):
        """Return the number of lots of the family of a tree that has each name once."""
        check_once(self)
        return _many_lots(self)


class Leaf(Tree):
    """A leaf with a name."""

    def __init__(self, name):
        if not is_between(name, 0, MOST_THINGS - 1):
            raise BadTree("name")
        self.name = name
        self.leaf_names = (name,)
        self.height = 0
        self.code = (0, name)


class Vote(Tree):
    """A vote: it says yes if as many of its branches as it needs do."""

    def __init__(self, need, branches):
        if not is_list(branches) or len(branches) == 0:
            raise BadTree("branches")
        if not all([isinstance(branch, Tree) for branch in branches]):
            raise BadTree("branches")
        if not is_between(need, 1, len(branches)):
            raise BadTree("need")
        if sum([len(branch.leaf_names) for branch in branches]) > MOST_LEAVES:
            raise BadTree("leaves")
        height = 1 + max([branch.height for branch in branches])
        if height > MOST_DEPTH:
            raise BadTree("depth")
        self.need = need
        self.branches = tuple(branches)
        self.leaf_names = tuple([name for branch in branches for name in branch.leaf_names])
        self.height = height
        # the number of branches tells where the codes of the branches end
        self.code = tuple([1, need, len(branches)] + [part for branch in branches for part in branch.code])


def check_once(tree):
    """Raise NotOnce with the first name from the left that is on an earlier leaf, too."""
    seen = {}
    for name in tree.leaf_names:
        if name in seen:
            raise NotOnce(name)
        seen[name] = True


def _check_names_below(tree, size):
    if not is_between(size, max(tree.leaf_names) + 1, MOST_THINGS):
        raise BadNumber("size")


def _says_yes(tree, things):
    if isinstance(tree, Leaf):
        return tree.name in things
    return len([branch for branch in tree.branches if _says_yes(branch, things)]) >= tree.need


def _other_tree(tree):
    if isinstance(tree, Leaf):
        return Leaf(tree.name)
    return Vote(len(tree.branches) + 1 - tree.need, [_other_tree(branch) for branch in tree.branches])


def _numbered_from(tree, start):
    """Return the tree with the names from the start on."""
    if isinstance(tree, Leaf):
        return Leaf(start)
    branches = []
    for branch in tree.branches:
        branches.append(_numbered_from(branch, start))
        start = start + len(branch.leaf_names)
    return Vote(tree.need, branches)


def _many_lots(tree):
    if isinstance(tree, Leaf):
        return 1
    # many[j]: over all choices of j of the branches so far, the products of their numbers of lots
    many = [1] + [0] * tree.need
    for branch in tree.branches:
        one = _many_lots(branch)
        many = [1] + [more + one * less for less, more in zip(many, many[1:])]
    return many[-1]


def _columns(many):
    """Return for each of so many places the table that has a 1 at each mask with this place.

    A table is an integer with one bit for each mask: its bit X is 1 if it says yes to the mask X.
    """
    tables = []
    size = 1
    for _ in range(many):
        # the masks with the next place come behind the masks without it
        tables = [table | (table << size) for table in tables] + [((1 << size) - 1) << size]
        size = size * 2
    return tables


def _table(tree, columns, everything):
    """Return the table of the sets that the tree says yes to; `columns` has the tables of the names."""
    if isinstance(tree, Leaf):
        return columns[tree.name]
    # at_least[j]: the sets to which at least j of the branches so far say yes
    at_least = [everything] + [0] * tree.need
    for branch in tree.branches:
        table = _table(branch, columns, everything)
        at_least = [everything] + [more | less & table for less, more in zip(at_least, at_least[1:])]
    return at_least[-1]


def _least_yes(tree, names):
    """Return the table of the least sets that the tree says yes to, as masks of places among the names."""
    columns = _columns(len(names))
    everything = (1 << (1 << len(names))) - 1
    table = _table(tree, {name: column for name, column in zip(names, columns)}, everything)
    larger = 0
    for place, column in enumerate(columns):
        # a set to which one more name is added is not a least one
        larger = larger | (table & ~column) << (1 << place)
    return table & ~larger
