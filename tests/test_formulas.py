"""Points 130 and 131: formulas, their nets, the trees of lots, contact sides."""

import unittest

from shortbynarrow.contacts import is_enough, least_links
from shortbynarrow.errors import BadNumber, BadTree, TooMany
from shortbynarrow.families import Family
from shortbynarrow.formulas import contact_sides, net_of_tree, tree_of_blocker, tree_of_lots
from shortbynarrow.nets import Net
from shortbynarrow.pricing import price
from shortbynarrow.rows import Row
from shortbynarrow.shapes import block, fan, four_points, ring, seven_lines, votes
from shortbynarrow.trees import Leaf, Vote
from shortbynarrow.treetexts import tree_from, tree_text
from shortbynarrow.ways import net_family
from tests.brute import NOT_NUMBERS, any_trees, fraction, once_trees, rich_families, some_families
from tests.cases import Case


def as_formula(tree):
    """Return the tree in which each vote needs 1 or all of its branches."""
    if isinstance(tree, Leaf):
        return tree
    branches = [as_formula(branch) for branch in tree.branches]
    return Vote(1 if tree.need % 2 else len(branches), branches)


def formulas(seed, count, most_leaves=7):
    """Return random formulas, of which some have names on several leaves."""
    found = any_trees(seed, count, most_leaves, 5) + once_trees(seed + 1, count, most_leaves, 9)
    return [as_formula(tree) for tree in found]


def points_of(tree):
    """Return how many points the net of a formula has."""
    def inner(one):
        if isinstance(one, Leaf):
            return 0
        return sum(inner(b) for b in one.branches) + (one.need - 1 if one.need > 1 else 0)

    return 2 + inner(tree)


class NetOfTreeTest(Case):
    """The net of a formula."""

    def test_link_by_link(self):
        cases = [
            ("0", 2, ((0, 1, 0),)), ("1(3)", 2, ((0, 1, 3),)), ("1(1(3))", 2, ((0, 1, 3),)),
            ("1(3 0)", 2, ((0, 1, 3), (0, 1, 0))), ("2(3 0)", 3, ((0, 1, 3), (1, 2, 0))),
            ("2(0 1(1 2))", 3, ((0, 1, 0), (1, 2, 1), (1, 2, 2))),
            ("3(0 1 2)", 4, ((0, 1, 0), (1, 2, 1), (2, 3, 2))),
            ("1(2(0 1) 2(2 3))", 4, ((0, 1, 0), (1, 3, 1), (0, 2, 2), (2, 3, 3))),
            # the outer points are taken ahead of the inner ones
            ("2(2(0 1) 2(2 3))", 5, ((0, 2, 0), (1, 2, 1), (1, 3, 2), (3, 4, 3))),
            ("2(2(0 1) 3(2 3 4))", 6, ((0, 2, 0), (1, 2, 1), (1, 3, 2), (3, 4, 3), (4, 5, 4))),
            ("1(0 2(1 1(2 2(3 4))) 5)", 4, ((0, 3, 0), (0, 1, 1), (1, 3, 2), (1, 2, 3), (2, 3, 4), (0, 3, 5))),
            ("3(1(2(0 1) 2) 1 1(3 2(0 0)))", 6,
             ((0, 3, 0), (1, 3, 1), (0, 1, 2), (1, 2, 1), (2, 5, 3), (2, 4, 0), (4, 5, 0))),
        ]
        for text, points, links in cases:
            net = net_of_tree(tree_from(text), 6)
            self.assertEqual(net, Net(points, links, 6))
            self.assertEqual((net.points, net.links, net.size), (points, links, 6))

    def test_family_and_contact_row(self):
        made = 0
        for tree in formulas(3001, 120):
            if points_of(tree) > 8:
                self.assert_error(TooMany(8), net_of_tree, tree, 12)
                continue
            made += 1
            for size in (max(tree.names) + 1, 12):
                net = net_of_tree(tree, size)
                self.assertEqual(net.points, points_of(tree))
                self.assertEqual(net_family(net), tree.family_on(size))
                self.assertEqual(net.row_of_contacts(), tree.leaf_row(size))
                self.assertEqual(tuple(link[2] for link in net.links), tree.leaves())
            self.assertGreaterEqual(fraction(price(tree.family_on(9), tree.leaf_row(9))), 1)
            self.assertIs(is_enough(tree.family_on(9), tree.leaf_row(9)), True)
            self.assertGreaterEqual(len(tree.leaves()), least_links(tree.family_on(9)))
        self.assertGreater(made, 100)

    def test_greatest_nets(self):
        twenty = net_of_tree(Vote(1, [Leaf(k % 12) for k in range(20)]), 12)
        self.assertEqual((len(twenty), twenty.points), (20, 2))
        eight = net_of_tree(Vote(7, [Leaf(k) for k in range(7)]), 7)
        self.assertEqual(eight.links, tuple((k, k + 1, k) for k in range(7)))
        deep = Leaf(0)
        for k in range(1, 20):
            deep = Vote(2 if k % 4 == 0 else 1, [deep, Leaf(k % 12)])
        net = net_of_tree(deep, 12)
        self.assertEqual(net_family(net), deep.family_on(12))
        chain = Leaf(5)
        for _ in range(30):
            chain = Vote(1, [chain])
        self.assertEqual(net_of_tree(chain, 6), Net(2, [(0, 1, 5)], 6))

    def test_errors_in_their_order(self):
        for text in ("2(0 1 2)", "1(0 2(1 2 3))", "2(3(0 1 2 3) 1)", "2(0 1 59)"):
            for size in (None, 0, 12):
                self.assert_error(BadTree("need"), net_of_tree, tree_from(text), size)
        long = Vote(9, [Leaf(k) for k in range(9)])
        self.assert_error(BadTree("need"), net_of_tree, Vote(1, [long, tree_from("2(0 0 0)")]), 12)
        wide = Vote(1, [Leaf(0)] * 21)
        for tree in (long, wide, Vote(2, [long, wide])):
            top = max(tree.names)
            for wrong in NOT_NUMBERS + [0, -1, top, 13, 60, 10 ** 40]:
                self.assert_error(BadNumber("size"), net_of_tree, tree, wrong)
        self.assert_error(BadNumber("size"), net_of_tree, Leaf(12), 13)
        self.assert_error(BadNumber("size"), net_of_tree, Leaf(12), 12)
        self.assert_error(TooMany(8), net_of_tree, long, 12)
        self.assert_error(TooMany(8), net_of_tree, Vote(8, [Leaf(0)] * 8), 1)
        self.assert_error(TooMany(8), net_of_tree, Vote(2, [long, wide]), 12)
        self.assert_error(TooMany(20), net_of_tree, wide, 1)
        self.assert_error(TooMany(20), net_of_tree, Vote(7, [Leaf(0)] * 6 + [Vote(1, [Leaf(1)] * 15)]), 2)


class TreesOfFamiliesTest(Case):
    """tree_of_lots, tree_of_blocker, contact_sides."""

    def test_trees(self):
        families = some_families(3003, 80) + rich_families(3004, 40) + [
            fan(5), ring(6), seven_lines(), four_points(), votes(2, 5), Family.single(), Family(60, [(59,), (3, 4)])]
        for family in families:
            if sum(len(lot) for lot in family) <= 60:
                tree = tree_of_lots(family)
                self.assertEqual(tree.need, 1)
                self.assert_branches(tree, family, True)
            if sum(len(lot) for lot in ~family) <= 60:
                tree = tree_of_blocker(family)
                self.assertEqual(tree.need, len(~family))
                self.assert_branches(tree, ~family, False)
                self.assertEqual(tree.family_on(family.things), family)

    def assert_branches(self, tree, family, whole):
        """Check that a tree has one branch for each lot, with votes of all or of one of its things."""
        self.assertIs(type(tree), Vote)
        self.assertEqual(len(tree.branches), len(family))
        for branch, lot in zip(tree.branches, family):
            if len(lot) == 1:
                self.assertEqual(branch, Leaf(lot[0]))
            else:
                self.assertEqual(branch, Vote(len(lot) if whole else 1, [Leaf(e) for e in lot]))
        if whole:
            self.assertEqual(tree.family_on(family.things), family)

    def test_texts(self):
        family = Family(5, [(0, 1), (2, 4, 3), (0, 3)])
        self.assertEqual(tree_text(tree_of_lots(family)), "1(2(0 1) 2(0 3) 3(2 3 4))")
        self.assertEqual(tree_text(tree_of_blocker(family)), "4(1(0 2) 1(0 3) 1(0 4) 1(1 3))")
        self.assertEqual(tree_text(tree_of_lots(Family.single())), "1(0)")
        self.assertEqual(tree_text(tree_of_blocker(Family.single())), "1(0)")
        self.assertEqual(tree_text(tree_of_lots(Family(4, [(3, 1)]))), "1(2(1 3))")
        self.assertEqual(tree_text(tree_of_blocker(Family(4, [(3, 1)]))), "2(1 3)")
        self.assertEqual(tree_text(tree_of_blocker(Family(4, [(3,), (1,)]))), "1(1(1 3))")

    def test_sides(self):
        for family in some_families(3005, 100) + rich_families(3006, 40) + [seven_lines(), Family(60, [(59,), (3, 4)])]:
            found = contact_sides(family)
            self.assertTrue(type(found) is tuple and len(found) == 2)
            for row, side in zip(found, (family, ~family)):
                self.assertTrue(type(row) is Row and row.is_whole)
                self.assertEqual(row.tops, tuple(len(side.lots_at(e)) for e in range(family.things)))
                if len(family.useful) <= 7:
                    self.assertIs(is_enough(family, row), True)
            if sum(len(lot) for lot in family) <= 60:
                self.assertEqual(found[0], tree_of_lots(family).leaf_row(family.things))
            if sum(len(lot) for lot in ~family) <= 60:
                self.assertEqual(found[1], tree_of_blocker(family).leaf_row(family.things))
            if family.things <= 12 and sum(len(lot) - 1 for lot in family) <= 6:
                self.assertEqual(Net.of_lots(family).row_of_contacts(), found[0])

    def test_sixty_leaves(self):
        self.assertEqual(len(tree_of_lots(ring(30)).leaves()), 60)
        self.assert_error(BadTree("leaves"), tree_of_lots, ring(31))
        self.assert_error(BadTree("leaves"), tree_of_lots, votes(59, 60))
        self.assertEqual(tree_of_lots(votes(60, 60)).leaves(), tuple(range(60)))
        self.assertEqual(tree_of_lots(votes(1, 60)).leaves(), tuple(range(60)))
        self.assertEqual(tree_of_blocker(votes(1, 60)).need, 1)
        self.assertEqual(tree_of_blocker(votes(60, 60)).need, 60)
        pairs = Family(60, [(k, 59 - k) for k in range(4)])
        self.assert_error(BadTree("leaves"), tree_of_blocker, pairs)
        thirty = Family(60, [list(range(30)), list(range(30, 31))])
        self.assertEqual(len(tree_of_blocker(thirty).leaves()), 60)
        more = Family(60, [list(range(31)), list(range(31, 32))])
        self.assert_error(BadTree("leaves"), tree_of_blocker, more)

    def test_blockers_that_can_not_be_listed(self):
        for size in (2, 3, 5):
            family = Family(60, [list(range(k, k + size)) for k in range(0, 60, size)])
            self.assert_error(BadTree("leaves"), tree_of_blocker, family)
        self.assert_error(BadTree("leaves"), tree_of_blocker, ~block(3, 4))
        self.assertEqual(tree_text(tree_of_blocker(block(2, 2))), "2(1(0 1) 1(2 3))")
        self.assert_error(BadTree("leaves"), tree_of_blocker, ring(60))
        self.assert_error(BadTree("leaves"), tree_of_blocker, votes(2, 60))


if __name__ == "__main__":
    unittest.main()
