"""Points 116 to 118: values up the tree, exchange, calm trees, level trees."""

import random
import unittest
from fractions import Fraction

from shortbynarrow.errors import BadNumber, BadRow, BadTree, NotOnce, OtherSize, TooMany
from shortbynarrow.lengths import narrow, short
from shortbynarrow.packings import cap
from shortbynarrow.pricing import price
from shortbynarrow.rows import Row
from shortbynarrow.shapes import votes
from shortbynarrow.strains import is_calm, strain
from shortbynarrow.trees import Leaf, Vote
from shortbynarrow.treetexts import tree_from, tree_text
from shortbynarrow.treevalues import (
    level_tree, tree_cap, tree_contacts, tree_least, tree_narrow, tree_price, tree_short, tree_strain,
)
from tests.brute import (
    NOT_LISTS, NOT_NUMBERS, amount_of, contacts_by_loads, fraction, is_amount, once_trees, random_row_of, random_tree,
)
from tests.cases import Case

WITH_ROWS = (tree_short, tree_narrow, tree_cap, tree_price, tree_contacts)


class UpTheTreeTest(Case):
    """Point 116."""

    def test_example(self):
        one, two = tree_from("2(0 1 1(2 3))"), level_tree([(2, 3), (2, 3)])
        self.assertEqual(
            [tree_price(one, [1, 1, 1, 1]), tree_contacts(one, [1, 1, 1, 1]), tree_strain(two),
             tree_contacts(two, Row.ones(9)), tree_least(two)], [(3, 4), (5, 1), (16, 9), (16, 1), 4])
        self.assertEqual(tree_text(level_tree([(1, 2), (2, 2)])), "1(2(0 1) 2(2 3))")

    def test_against_the_family(self):
        rng = random.Random(2601)
        for tree in once_trees(2602, 90, 7, 9):
            family = tree.family_on(9)
            for row in (Row.ones(9), random_row_of(rng, 9), random_row_of(rng, 9, 30, 7),
                        Row([rng.randint(1, 5) for _ in range(9)], 3)):
                self.assert_same(tree_short(tree, row), short(family, row))
                self.assert_same(tree_narrow(tree, row), narrow(family, row))
                self.assert_same(tree_cap(tree, row), cap(family, row))
                self.assert_same(tree_price(tree, row), price(family, row))
            row = random_row_of(rng, 9, 5, 2)
            self.assert_same(tree_contacts(tree, row), amount_of(contacts_by_loads(family, row)))
            self.assert_same(tree_strain(tree), strain(family))
            self.assert_same(tree_least(tree), family.least_size())

    def test_other_tree(self):
        rng = random.Random(2603)
        for tree in once_trees(2604, 60, 9, 12):
            row = random_row_of(rng, 12, 9)
            self.assert_same(tree_price(~tree, row), tree_price(tree, row))
            self.assert_same(tree_contacts(~tree, row), tree_contacts(tree, row))
            self.assert_same(tree_short(~tree, row), tree_narrow(tree, row))
            self.assert_same(tree_narrow(~tree, row), tree_short(tree, row))
            self.assert_same(tree_strain(~tree), tree_strain(tree))

    def test_leaves(self):
        row = Row([4, 6, 10], 4)
        for call in WITH_ROWS:
            self.assert_same(call(Leaf(1), row), (3, 2))
            self.assert_same(call(Vote(1, [Vote(1, [Leaf(2)])]), row), (5, 2))
        self.assert_same(tree_strain(Leaf(59)), (1, 1))
        self.assert_same(tree_least(Leaf(59)), 1)

    def test_rows_that_are_longer(self):
        rng = random.Random(2605)
        for tree in once_trees(2606, 40):
            size = max(tree.names) + 1
            row = [rng.randint(0, 5) for _ in range(size)]
            other = [value if e in tree.names else 77 for e, value in enumerate(row)] + [5] * 70
            for call in WITH_ROWS:
                due = call(tree, row)
                self.assert_same(call(tree, tuple(row)), due)
                self.assert_same(call(tree, Row(row)), due)
                self.assert_same(call(tree, other), due)

    def test_great_trees(self):
        rng = random.Random(2607)
        for _ in range(6):
            tree = random_tree(rng, rng.sample(range(60), 60), rng.randint(2, 8))
            row = [rng.randint(10 ** 39, 10 ** 40 - 1) for _ in range(60)]
            values = {call: call(tree, row) for call in WITH_ROWS}
            self.assertTrue(all(is_amount(value) for value in values.values()))
            total = sum(top * top for top in row)
            for one, other in ((tree_short, tree_cap), (tree_price, tree_contacts)):
                self.assertLessEqual(fraction(values[one]) * fraction(values[other]), total)
            self.assertLessEqual(fraction(values[tree_cap]), fraction(values[tree_narrow]))
            self.assertGreaterEqual(fraction(tree_strain(tree)), 1)
            self.assertLessEqual(fraction(values[tree_short]) * fraction(values[tree_narrow]),
                                 fraction(tree_strain(tree)) * total)
        deep = Leaf(0)
        for k in range(1, 31):
            deep = Vote(2, [deep, Leaf(2 * k - 1), Leaf(2 * k)]) if k < 30 else Vote(1, [deep])
        self.assertEqual((deep.depth(), len(deep.leaves())), (30, 59))
        row = Row([10 ** 39 + 3 ** k for k in range(60)], 10 ** 39 + 7)
        for call in WITH_ROWS:
            self.assertTrue(is_amount(call(deep, row)))
        self.assertGreater(fraction(tree_strain(deep)), 1)


class ExchangeTest(Case):
    """Point 117."""

    def test_same_strain(self):
        rng = random.Random(2608)
        # votes(2, 3) upon leaves and a vote of calm branches have one strain
        one = tree_from("2(0 1 2)")
        two = tree_from("2(1(0 1) 2(2 3) 1(4))")
        self.assertEqual(tree_strain(one), tree_strain(two))
        self.assertEqual(tree_strain(tree_from("2(6 2(0 1 2) 7)")), tree_strain(tree_from("2(6 2(1(0 1) 2(2 3) 1(4)) 7)")))
        for tree in once_trees(2609, 40, 5, 6):
            inner = random_tree(rng, rng.sample(range(6, 12), 3), 3)
            for twin in ("1(20)", "2(20 21)", "2(20 21 22)", "2(1(20 21) 22 23)", "1(2(20 21 22) 23)"):
                if tree_strain(tree_from(twin)) == tree_strain(inner):
                    made, other = Vote(1, [tree, Leaf(30)]), Vote(2, [tree, Leaf(30), Leaf(31)])
                    for top in (made, other):
                        first = Vote(top.need, [*top.branches, inner])
                        second = Vote(top.need, [*top.branches, tree_from(twin)])
                        self.assertEqual(tree_strain(first), tree_strain(second))

    def test_same_price_and_contacts(self):
        # a vote of 2 of 3 has at tolls 4 the price 3, and at weights 2 the contacts 8
        tolls = Row([4, 4, 4, 1, 1, 3], 1)
        self.assertEqual(tree_price(tree_from("2(0 1 2)"), tolls), tree_price(Leaf(5), tolls))
        for text in ("2(3 4 {})", "1(3 2(4 {}))", "2(1(3 {}) 4)"):
            first, second = tree_from(text.format("2(0 1 2)")), tree_from(text.format("5"))
            self.assertEqual(tree_price(first, tolls), tree_price(second, tolls))
        weights = Row([2, 2, 2, 1, 1, 8], 1)
        self.assertEqual(tree_contacts(tree_from("2(0 1 2)"), weights), tree_contacts(Leaf(5), weights))
        for text in ("2(3 4 {})", "1(3 2(4 {}))", "2(1(3 {}) 4)"):
            first, second = tree_from(text.format("2(0 1 2)")), tree_from(text.format("5"))
            self.assertEqual(tree_contacts(first, weights), tree_contacts(second, weights))

    def test_calm_trees(self):
        def is_formula(tree):
            return isinstance(tree, Leaf) or (
                tree.need in (1, len(tree.branches)) and all(is_formula(branch) for branch in tree.branches))

        counts = {True: 0, False: 0}
        for tree in once_trees(2610, 120, 7, 9):
            calm = is_formula(tree)
            self.assertIs(tree_strain(tree) == (1, 1), calm)
            self.assertIs(is_calm(tree.family_on(9)), calm)
            counts[calm] += 1
        self.assertTrue(counts[True] > 20 and counts[False] > 20)


class LevelTest(Case):
    """Point 118."""

    def test_levels(self):
        cases = [[], [(1, 1)], [(2, 3)], [(2, 3), (1, 2)], [(1, 2), (2, 3)], [(2, 2), (2, 3), (3, 5)], [(3, 5), (2, 4)],
                 [(1, 1)] * 30, [(2, 2)] * 5, [(30, 60)], [[2, 3], [2, 3], [2, 3]], ((4, 7), [1, 1], (2, 8))]
        for needs in cases:
            tree = level_tree(needs)
            many = 1
            strain_due, contacts_due, least_due = Fraction(1), 1, 1
            for k, n in needs:
                many *= n
                strain_due *= Fraction(k * (n + 1 - k), n)
                contacts_due *= k * (n + 1 - k)
                least_due *= k
            self.assertEqual(tree.leaves(), tuple(range(many)))
            self.assertEqual(tree.depth(), len(needs))
            self.assert_same(tree_strain(tree), amount_of(strain_due))
            self.assert_same(tree_contacts(tree, [1] * many), (contacts_due, 1))
            self.assert_same(tree_least(tree), least_due)
            at = tree
            for k, n in needs:
                self.assertEqual((at.need, len(at.branches)), (k, n))
                self.assertTrue(all(branch.numbered() == at.branches[0].numbered() for branch in at.branches))
                at = at.branches[0]
            self.assertEqual(at, Leaf(0))

    def test_the_empty_list(self):
        for empty in ([], ()):
            self.assertEqual(level_tree(empty), Leaf(0))
            self.assertIs(type(level_tree(empty)), Leaf)

    def test_families(self):
        self.assertEqual(level_tree([(2, 4)]).family_on(4), votes(2, 4))
        self.assertEqual(strain(level_tree([(2, 3), (1, 2)]).family_on(6)), (4, 3))

    def test_the_list_stays_as_it_was(self):
        needs = [[2, 3], (1, 2)]
        tree = level_tree(needs)
        self.assertEqual(needs, [[2, 3], (1, 2)])
        needs[0][0] = 3
        self.assertEqual(tree_text(tree), "2(1(0 1) 1(2 3) 1(4 5))")

    def test_wrong_lists(self):
        for wrong in NOT_LISTS:
            self.assert_error(BadNumber("needs"), level_tree, wrong)
        entries = [None, 5, "23", (2,), (1, 2, 3), (0, 3), (-1, 3), (4, 3), (True, 3), (1, True), ("1", 2), (1.0, 2),
                   (1, None), (1, 0), {1: 2}, Leaf(0)]
        for entry in entries:
            self.assert_error(BadNumber("needs"), level_tree, [entry])
            self.assert_error(BadNumber("needs"), level_tree, [(1, 61), (2, 3), entry])
            self.assert_error(BadNumber("needs"), level_tree, [(1, 1)] * 31 + [entry])

    def test_too_many(self):
        for needs in ([(1, 61)], [(1, 8), (1, 8)], [(2, 2)] * 6, [(1, 10 ** 40)], [(1, 31), (1, 2)], [(2, 2)] * 4000,
                      [(1, 1)] * 30 + [(1, 61)]):
            self.assert_error(TooMany(60), level_tree, needs)
        self.assert_error(BadTree("depth"), level_tree, [(1, 1)] * 31)
        self.assert_error(BadTree("depth"), level_tree, [(1, 60)] + [(1, 1)] * 30)
        self.assertEqual(level_tree([(7, 60)] + [(1, 1)] * 29).depth(), 30)


class ErrorsTest(Case):
    """NotOnce first, then the row."""

    def test_not_once(self):
        tree = tree_from("2(0 3 1(4 3 0))")
        for call in WITH_ROWS:
            for row in (None, [1], [1] * 5):
                self.assert_error(NotOnce(3), call, tree, row)
        self.assert_error(NotOnce(3), tree_strain, tree)
        self.assert_error(NotOnce(3), tree_least, tree)

    def test_rows(self):
        tree = tree_from("2(0 3 1(4 2))")
        for call in WITH_ROWS:
            for wrong in NOT_LISTS + [[], ()]:
                self.assert_error(BadRow(-1), call, tree, wrong)
            for wrong in (-1, True, None, "1", 0.5, (1, 2)):
                self.assert_error(BadRow(1), call, tree, [1, wrong, -1])
                self.assert_error(BadRow(7), call, tree, [1] * 7 + [wrong])
            for size in (1, 4):
                self.assert_error(OtherSize(size), call, tree, [1] * size)
                self.assert_error(OtherSize(size), call, tree, Row([2] * size, 3))
            self.assertTrue(is_amount(call(tree, [1] * 5)))


if __name__ == "__main__":
    unittest.main()
