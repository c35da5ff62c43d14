"""Points 114 and 115: trees and their families."""

import random
import unittest
from itertools import product

from shortbynarrow.errors import BadNumber, BadSet, BadTree, NotOnce, TooMany
from shortbynarrow.families import Family
from shortbynarrow.pricing import price
from shortbynarrow.putting import merged
from shortbynarrow.rows import Row
from shortbynarrow.shapes import block, seven_lines, votes
from shortbynarrow.trees import Leaf, Tree, Vote
from tests.brute import (
    NOT_LISTS, NOT_NUMBERS, any_trees, family_of_tree, fraction, once_trees, says_yes, subsets,
)
from tests.cases import Case


def chain(depth, tree):
    """Return votes of one branch over a tree, so many."""
    for _ in range(depth):
        tree = Vote(1, [tree])
    return tree


def flat(tree):
    """Return a tree as nested tuples."""
    if isinstance(tree, Leaf):
        return tree.name
    return (tree.need, *[flat(branch) for branch in tree.branches])


class TreeTest(Case):
    """Point 114."""

    def test_example(self):
        tree = Vote(2, [Leaf(0), Leaf(1), Vote(1, [Leaf(2), Leaf(3)])])
        self.assertEqual(
            [tree.names, tree.depth(), tree.lot_count(), tree.family_on(4).lots, tree([3, 1]), tree([2, 3])],
            [(0, 1, 2, 3), 2, 5, ((0, 1), (0, 2), (0, 3), (1, 2), (1, 3)), True, False])

    def test_attributes(self):
        branches = [Leaf(3), Leaf(3)]
        tree = Vote(1, branches)
        branches.append(Leaf(4))
        self.assertEqual((tree.need, len(tree.branches), tree.branches[0].name), (1, 2, 3))
        self.assertIs(type(tree.branches), tuple)
        self.assertTrue(isinstance(tree, Tree) and isinstance(Leaf(0), Tree))
        self.assertFalse(isinstance(Leaf(0), Vote) or isinstance(tree, Leaf))
        self.assertEqual(Vote(2, tuple(branches)), Vote(2, branches))

    def test_leaves_and_names(self):
        for tree in any_trees(2401, 100):
            def walk(one):
                return [one.name] if isinstance(one, Leaf) else [n for b in one.branches for n in walk(b)]

            def deep(one):
                return 0 if isinstance(one, Leaf) else 1 + max(deep(b) for b in one.branches)

            self.assert_same(tree.leaves(), tuple(walk(tree)))
            self.assert_same(tree.names, tuple(sorted(set(walk(tree)))))
            self.assert_same(tree.is_once(), len(set(walk(tree))) == len(walk(tree)))
            self.assert_same(tree.depth(), deep(tree))

    def test_equality(self):
        trees = any_trees(2402, 120, 4, 2)
        equal = 0
        for one, two in product(trees, trees):
            self.assertIs(one == two, flat(one) == flat(two))
            equal += one == two
        self.assertGreater(equal, len(trees))
        pairs = [
            (Leaf(1), Leaf(2)), (Leaf(1), Vote(1, [Leaf(1)])), (Vote(1, [Leaf(0), Leaf(1)]), Vote(2, [Leaf(0), Leaf(1)])),
            (Vote(1, [Leaf(0), Leaf(1)]), Vote(1, [Leaf(1), Leaf(0)])), (chain(2, Leaf(0)), chain(3, Leaf(0))),
            (Vote(1, [Leaf(0), Vote(1, [Leaf(0)])]), Vote(1, [Vote(1, [Leaf(0)]), Leaf(0)])),
            (Vote(1, [Vote(1, [Leaf(0), Leaf(1)]), Leaf(2)]), Vote(1, [Vote(1, [Leaf(0)]), Leaf(1), Leaf(2)])),
            (Vote(1, [Vote(1, [Leaf(0), Leaf(1)])]), Vote(1, [Vote(1, [Leaf(0)]), Leaf(1)])),
        ]
        for one, two in pairs:
            self.assertFalse(one == two)
            self.assertTrue(one != two)
            self.assertTrue(one == one and two == two)
        for other in (1, None, "1", (0, 1), [Leaf(1)], Leaf, Family.single()):
            self.assertIs(Leaf(1) == other, False)
            self.assertIs(Vote(1, [Leaf(1)]) == other, False)

    def test_other_tree(self):
        for tree in any_trees(2403, 100):
            def turned(one):
                if isinstance(one, Leaf):
                    return one.name
                return (len(one.branches) + 1 - one.need, *[turned(b) for b in one.branches])

            self.assertEqual(flat(~tree), turned(tree))
            self.assertEqual(~~tree, tree)

    def test_numbered(self):
        for tree in any_trees(2404, 100):
            count = iter(range(60))

            def named(one):
                return next(count) if isinstance(one, Leaf) else (one.need, *[named(b) for b in one.branches])

            self.assertEqual(flat(tree.numbered()), named(tree))
            self.assertEqual(tree.numbered().leaves(), tuple(range(len(tree.leaves()))))
            self.assertIs(tree.numbered().is_once(), True)
        self.assertEqual(Leaf(59).numbered(), Leaf(0))

    def test_one_tree_in_several_places(self):
        inner = Vote(2, [Leaf(4), Leaf(7), Leaf(4)])
        tree = Vote(2, [inner, inner, Vote(1, [inner])])
        self.assertEqual(tree.leaves(), (4, 7, 4) * 3)
        self.assertEqual(tree, Vote(2, [Vote(2, [Leaf(4), Leaf(7), Leaf(4)])] * 2
                                    + [Vote(1, [Vote(2, [Leaf(4), Leaf(7), Leaf(4)])])]))
        self.assertEqual(tree.numbered().leaves(), tuple(range(9)))
        self.assertEqual(tree.family_on(8).lots, ((4,),))
        self.assertEqual((~tree).family_on(8), ~tree.family_on(8))

    def test_a_tree_is_never_changed(self):
        tree = Vote(2, [Leaf(0), Leaf(1), Vote(1, [Leaf(2), Leaf(1)])])
        before = flat(tree)
        for call in (tree.leaves, tree.depth, tree.is_once, tree.numbered, lambda: ~tree, lambda: tree([1]),
                     lambda: tree.family_on(3), lambda: tree.leaf_row(3), lambda: tree.names):
            call()
            self.assertEqual(flat(tree), before)


class WrongTreesTest(Case):
    """BadTree with each of its words, and the limits."""

    def test_no_tree_by_itself(self):
        self.assert_error(BadTree("tree"), Tree)

    def test_names(self):
        for wrong in NOT_NUMBERS + [-1, 60, 10 ** 40]:
            self.assert_error(BadTree("name"), Leaf, wrong)
        self.assertEqual((Leaf(0).name, Leaf(59).name), (0, 59))

    def test_branches_ahead_of_need(self):
        for wrong in NOT_LISTS + [[], (), Leaf(0), [1], [Leaf(0), None], (Leaf(0), [Leaf(1)]), [Leaf]]:
            self.assert_error(BadTree("branches"), Vote, 1, wrong)
            self.assert_error(BadTree("branches"), Vote, None, wrong)

    def test_need_ahead_of_leaves(self):
        sixty = Vote(1, [Leaf(k) for k in range(60)])
        for wrong in NOT_NUMBERS + [0, -1, 3, 10 ** 40]:
            self.assert_error(BadTree("need"), Vote, wrong, [Leaf(0), Leaf(1)])
            self.assert_error(BadTree("need"), Vote, wrong, [sixty, chain(30, Leaf(0))])

    def test_leaves_ahead_of_depth(self):
        sixty = Vote(1, [Leaf(k) for k in range(60)])
        self.assertEqual(len(sixty.leaves()), 60)
        self.assert_error(BadTree("leaves"), Vote, 1, [Leaf(0)] * 61)
        self.assert_error(BadTree("leaves"), Vote, 1, [sixty, Leaf(0)])
        self.assert_error(BadTree("leaves"), Vote, 1, [sixty, chain(30, Leaf(0))])
        self.assertEqual(len(Vote(60, [Leaf(0)] * 60).leaves()), 60)

    def test_depth(self):
        self.assertEqual(chain(30, Leaf(5)).depth(), 30)
        self.assert_error(BadTree("depth"), Vote, 1, [chain(30, Leaf(5))])
        self.assert_error(BadTree("depth"), Vote, 2, [Leaf(0), chain(30, Leaf(5))])
        self.assertEqual(Vote(2, [Leaf(0), chain(29, Leaf(5))]).depth(), 30)


class FamilyOfTreeTest(Case):
    """Point 115."""

    def test_yes_and_no(self):
        for tree in any_trees(2405, 60) + once_trees(2406, 40, 5, 6):
            size = max(tree.names) + 1
            for things in subsets(range(size)):
                self.assertIs(tree(things), says_yes(tree, things))
                self.assertIs(tree(list(reversed(things))), says_yes(tree, things))
            # integers that are no names make no difference
            self.assertIs(tree([*range(size), 59]), True)
            self.assertIs(tree([58, 59]), False)
        self.assertIs(Leaf(3)([]), False)

    def test_family(self):
        for tree in any_trees(2407, 80) + once_trees(2408, 60, 6, 7):
            size = max(tree.names) + 1
            family = tree.family_on(size)
            self.assertEqual(family, family_of_tree(tree, size))
            self.assertEqual((~tree).family_on(size), ~family)
            self.assertEqual(tree.family_on(60).lots, family.lots)
            self.assertEqual(tree.family_on(60).things, 60)
            for things in subsets(range(size)):
                self.assertIs(tree(things), family.holds(things))

    def test_numbered_and_merged(self):
        for tree in any_trees(2409, 80):
            size = max(tree.names) + 1
            many = len(tree.leaves())
            self.assertEqual(tree.family_on(size), merged(tree.numbered().family_on(many), tree.leaves(), size))

    def test_price_by_the_numbered_tree(self):
        rng = random.Random(2410)
        for tree in any_trees(2411, 40, 7, 4):
            size = max(tree.names) + 1
            tolls = [rng.randint(0, 3) for _ in tree.leaves()]
            row = [sum(toll for toll, name in zip(tolls, tree.leaves()) if name == e) for e in range(size)]
            small = price(tree.numbered().family_on(len(tolls)), tolls)
            self.assertGreaterEqual(fraction(price(tree.family_on(size), row)), fraction(small))

    def test_leaf_row(self):
        for tree in any_trees(2412, 60):
            for size in (max(tree.names) + 1, 9, 60):
                row = tree.leaf_row(size)
                self.assertIs(type(row), Row)
                self.assertEqual(row, Row([tree.leaves().count(e) for e in range(size)]))
        self.assertEqual(Leaf(0).leaf_row(1), Row([1]))

    def test_lot_count(self):
        for tree in once_trees(2413, 100):
            self.assert_same(tree.lot_count(), len(tree.family_on(9)))
            self.assert_same((~tree).lot_count(), len(~tree.family_on(9)))
        self.assert_same(Leaf(7).lot_count(), 1)
        self.assert_same(Vote(30, [Leaf(k) for k in range(60)]).lot_count(), 118264581564861424)
        groups = [Vote(1, [Leaf(3 * k), Leaf(3 * k + 1), Leaf(3 * k + 2)]) for k in range(20)]
        self.assert_same(Vote(20, groups).lot_count(), 3 ** 20)

    def test_great_trees(self):
        twelve = [Leaf(5 * k + 4) for k in range(12)]
        tree = Vote(2, [*twelve, *twelve, *twelve, *twelve, *twelve])
        self.assertEqual(tree.family_on(60).lots, tuple((5 * k + 4,) for k in range(12)))
        # ten votes over the same leaves, one upon the other
        tree = chain(20, Vote(3, [Leaf(k) for k in range(12)]))
        self.assert_error(TooMany(200), tree.family_on, 12)
        pairs = [Vote(2, [Leaf(k), Leaf(k + 6)]) for k in range(6)]
        self.assertEqual(len(chain(28, Vote(3, pairs)).family_on(12)), 20)
        lines = Vote(1, [Vote(3, [Leaf(e) for e in lot]) for lot in seven_lines().lots])
        self.assertEqual(lines.family_on(7), seven_lines())
        self.assertEqual(Vote(3, [Vote(1, [Leaf(4 * r + e) for e in range(4)]) for r in range(3)]).family_on(12),
                         block(3, 4))
        # more than 60 lots on the way, few at the end
        wide = Vote(1, [Vote(6, [Leaf(k) for k in range(12)]), Vote(2, [Leaf(k) for k in range(12)])])
        self.assertEqual(wide.family_on(12), votes(2, 12))

    def test_two_hundred_lots(self):
        # 10 times 20 lots, and one more
        ten, twenty = Vote(2, [Leaf(k) for k in range(5)]), Vote(3, [Leaf(k) for k in range(5, 11)])
        tree = Vote(2, [ten, twenty])
        self.assertEqual(tree.lot_count(), 200)
        self.assertEqual(len(tree.family_on(11)), 200)
        self.assertEqual(tree.family_on(60).lots, tree.family_on(11).lots)
        more = Vote(1, [tree, Leaf(11)])
        self.assertEqual(more.lot_count(), 201)
        self.assert_error(TooMany(200), more.family_on, 12)
        self.assertEqual(len((~more).family_on(12)), len(~tree.family_on(12)))


class ErrorsTest(Case):
    """The errors of the methods."""

    def test_sets(self):
        tree = Vote(1, [Leaf(0), Leaf(3)])
        self.assert_set_errors(60, tree)
        self.assert_set_errors(60, Leaf(0))
        self.assertIs(tree([59, 3]), True)

    def test_sizes(self):
        tree = Vote(1, [Leaf(0), Leaf(3)])
        for wrong in NOT_NUMBERS + [0, -1, 3, 61, 10 ** 40]:
            self.assert_error(BadNumber("size"), tree.family_on, wrong)
            self.assert_error(BadNumber("size"), tree.leaf_row, wrong)
        self.assertEqual(tree.family_on(4), Family(4, [(0,), (3,)]))

    def test_too_many(self):
        twelve = Vote(12, [Leaf(k) for k in range(12)])
        self.assertEqual(twelve.family_on(12).lots, (tuple(range(12)),))
        thirteen = Vote(13, [Leaf(k) for k in range(13)])
        self.assert_error(TooMany(12), thirteen.family_on, 13)
        self.assert_error(TooMany(12), thirteen.family_on, 60)
        self.assert_error(BadNumber("size"), thirteen.family_on, 12)
        middle = Vote(6, [Leaf(k) for k in range(12)])
        self.assert_error(TooMany(200), middle.family_on, 12)
        self.assert_error(BadNumber("size"), middle.family_on, 11)
        self.assert_error(TooMany(12), Vote(6, [Leaf(k) for k in range(14)]).family_on, 14)

    def test_not_once(self):
        cases = [([3, 5, 3], 3), ([1, 2, 2, 1], 2), ([7, 7, 7], 7), ([0, 4, 9, 4, 9, 0], 4)]
        for names, name in cases:
            tree = Vote(2, [Leaf(names[0]), Vote(1, [Leaf(n) for n in names[1:]])])
            self.assert_error(NotOnce(name), tree.lot_count)
            self.assertIs(tree.is_once(), False)
            self.assert_error(NotOnce(name), (~tree).lot_count)
        leaf = Leaf(2)
        self.assert_error(NotOnce(2), Vote(2, [leaf, leaf]).lot_count)


if __name__ == "__main__":
    unittest.main()
