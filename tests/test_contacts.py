"""Points 113, 125 to 129, 131, 132, 134 and 135: contacts."""

import random
import unittest
from fractions import Fraction
from itertools import permutations

from shortbynarrow.contacts import (
    contact_mix, contacts, enough_row, is_enough, lean_rows, least_links, pair_weights,
)
from shortbynarrow.cores import read_break
from shortbynarrow.errors import BadRow, NotCouples, OtherSize, TooMany
from shortbynarrow.families import Family
from shortbynarrow.loads import lean_loads
from shortbynarrow.parts import single_parts
from shortbynarrow.pricing import best_pairs, price
from shortbynarrow.putting import beside, both, merged
from shortbynarrow.rows import Row
from shortbynarrow.shapes import fan, four_points, ring, seven_lines, votes
from shortbynarrow.strains import is_calm, strain
from shortbynarrow.trees import Leaf, Vote
from shortbynarrow.votes import vote_contacts, vote_rises
from shortbynarrow.ways import net_family
from tests.brute import (
    all_families, amount_of, any_trees, contacts_by_loads, fraction, fractions, is_amount, is_lean_row,
    lean_rows_by_definition, random_row_of, rich_families, some_families, sum_of, subsets, tuples, useless_beside,
)
from tests.cases import Case
from tests.test_couples import some_couples
from tests.test_nets import some_nets_with_ways


def shapes():
    """Return families that are well known."""
    return [fan(m) for m in range(3, 8)] + [ring(n) for n in range(3, 8)] + [
        seven_lines(), four_points(), ~four_points(), Family.single(), votes(2, 4), votes(3, 6), votes(4, 7)]


class EnoughTest(Case):
    """Point 125."""

    def test_examples(self):
        rows = lean_rows(votes(2, 3))
        self.assertEqual(
            [contacts(votes(2, 3)), contacts(votes(2, 3), [5, 3, 1]), rows[0].tops, rows[1].tops, rows[2].tops,
             len(rows)], [(4, 1), (10, 1), (1, 1, 2), (1, 2, 1), (2, 1, 1), 3])
        found = pair_weights(fan(4))
        self.assertEqual(
            [contacts(fan(4)), least_links(fan(4)), found[-1][0].tops, found[-1][0].bottom, found[-1][1]],
            [(9, 2), 5, (4, 1, 1, 1), 9, (9, 4)])

    def test_is_enough(self):
        rng = random.Random(2901)
        counts = {True: 0, False: 0}
        for family in rich_families(2902, 60) + some_families(2903, 40) + shapes():
            for _ in range(4):
                row = Row([rng.randint(0, 4) for _ in range(family.things)], rng.randint(1, 2))
                enough = fraction(price(family, row)) >= 1
                self.assertIs(is_enough(family, row), enough)
                self.assertIs(is_enough(~family, row), enough)
                counts[enough] += 1
        self.assertTrue(counts[True] > 40 and counts[False] > 40)
        self.assertIs(is_enough(ring(3), Row([4, 4, 4], 3)), True)
        self.assertIs(is_enough(ring(3), Row([3999, 3999, 3999], 3000)), False)
        self.assertIs(is_enough(ring(3), (1, 1, 2)), True)

    def test_against_the_definition(self):
        rng = random.Random(2904)
        families = all_families(3) + [family for family in some_families(2905, 25, 4, 5)]
        for family in families:
            due = lean_rows_by_definition(family)
            found = lean_rows(family)
            self.assertEqual([tuples(row) for row in found], due)
            for _ in range(3):
                weights = random_row_of(rng, family.things)
                least = min(sum(a * b for a, b in zip(row, fractions(weights))) for row in due)
                self.assert_same(contacts(family, weights), amount_of(least + Fraction(0)))
            self.assert_same(contacts(family), amount_of(min(sum(row) for row in due)))

    def check_both_sides(self, family, weights):
        """Check the contacts from both sides: a lean row that reaches them, and amounts on lean loads."""
        found = contacts(family, weights)
        self.assertTrue(is_amount(found))
        entries = fractions(Row.ones(family.things) if weights is None else Row(weights) if isinstance(
            weights, (list, tuple)) else weights)
        row = enough_row(family, weights)
        self.assertIs(type(row), Row)
        self.assertTrue(is_enough(family, row) and is_lean_row(family, row))
        self.assertEqual(sum(a * b for a, b in zip(entries, fractions(row))), fraction(found))
        self.assertTrue(all(fraction(row[e]) >= 1 for e in family.useful))
        pairs = pair_weights(family, weights)
        self.assertTrue(type(pairs) is tuple and all(type(pair) is tuple and len(pair) == 2 for pair in pairs))
        self.assertTrue(all(type(load) is Row and is_amount(share) and share[0] > 0 for load, share in pairs))
        lean = [tuples(load) for load in lean_loads(family)]
        loads = [tuples(load) for load, _ in pairs]
        self.assertEqual(loads, sorted(set(loads)))
        self.assertTrue(set(loads) <= set(lean))
        for e in family.useful:
            self.assertLessEqual(sum(fraction(share) * fraction(load[e]) for load, share in pairs), entries[e])
        self.assertEqual(sum(fraction(share) for _, share in pairs), fraction(found))
        return found

    def test_both_sides(self):
        rng = random.Random(2906)
        for family in rich_families(2907, 60) + some_families(2908, 40) + shapes():
            n = family.things
            for weights in (None, [1] * n, random_row_of(rng, n), random_row_of(rng, n, 9, 7),
                            tuple(rng.randint(0, 3) for _ in range(n))):
                self.check_both_sides(family, weights)
            self.assertEqual(contacts(family), contacts(family, Row.ones(n)))

    def test_blocker(self):
        rng = random.Random(2909)
        for family in rich_families(2910, 50) + some_families(2911, 30):
            weights = random_row_of(rng, family.things)
            self.assert_same(contacts(~family, weights), contacts(family, weights))
            if len(family.useful) <= 5:
                self.assertEqual(lean_rows(~family), lean_rows(family))

    def test_zeros_and_useless_things(self):
        for small in (ring(5), fan(4), seven_lines(), votes(2, 4), four_points()):
            n = small.things
            self.assert_same(contacts(small, [0] * n), (0, 1))
            self.assertEqual(pair_weights(small, [0] * n), ())
            self.check_both_sides(small, [0] * n)
            for e in range(n):
                self.check_both_sides(small, [0 if f == e else 3 for f in range(n)])
                self.check_both_sides(small, [4 if f == e else 0 for f in range(n)])
            places = random.Random(n).sample(range(60), n)
            family = useless_beside(small, places, 60)
            self.assert_same(self.check_both_sides(family, None), contacts(small))
            weights = [9] * 60
            for e, place in enumerate(places):
                weights[place] = e + 1
            due = contacts(small, list(range(1, n + 1)))
            self.assert_same(self.check_both_sides(family, weights), due)
            other = [weights[k] if k in places else 0 for k in range(60)]
            self.assert_same(contacts(family, other), due)
            useless = [0 if k in places else 7 for k in range(60)]
            self.assert_same(contacts(family, useless), (0, 1))
            self.assertEqual(pair_weights(family, useless), ())

    def test_great_numbers(self):
        weights = Row([10 ** 39 + 7 ** (2 * e) for e in range(7)], 10 ** 40 - 1)
        for family in (votes(4, 7), seven_lines(), fan(7), ring(7), rich_families(2912, 1, 7, 7)[0]):
            self.assertTrue(is_amount(self.check_both_sides(family, weights)))
        self.assert_same(contacts(votes(4, 7), weights), vote_contacts(4, weights))

    def test_least_links(self):
        for family in rich_families(2913, 40) + shapes():
            value = fraction(contacts(family))
            self.assert_same(least_links(family), -(-value.numerator // value.denominator))


class PriceTest(Case):
    """Points 126 and 127."""

    def test_price_times_contacts(self):
        rng = random.Random(2914)
        for family in rich_families(2915, 50) + some_families(2916, 30) + shapes():
            n, useful = family.things, family.useful
            for _ in range(3):
                q, m = random_row_of(rng, n, 5), random_row_of(rng, n, 5)
                total = sum(fraction(q[e]) * fraction(m[e]) for e in useful)
                s, ell = fraction(price(family, q)), fraction(contacts(family, m))
                self.assertLessEqual(s * ell, total)
                if s > 0:
                    x, y = best_pairs(family, q)[0]
                    load = x * y
                    self.assert_same(contacts(family, load), (1, 1))
                    self.assertEqual(sum(fraction(q[e]) * fraction(load[e]) for e in useful), s)
                if ell > 0:
                    row = enough_row(family, m)
                    self.assert_same(price(family, row), (1, 1))

    def test_weights_together(self):
        rng = random.Random(2917)
        for family in rich_families(2918, 40) + shapes():
            n = family.things
            m, other = random_row_of(rng, n), random_row_of(rng, n)
            one, two = fraction(contacts(family, m)), fraction(contacts(family, other))
            self.assertEqual(fraction(contacts(family, 3 * m)), 3 * one)
            self.assertEqual(contacts(family, 0 * m), (0, 1))
            self.assertGreaterEqual(fraction(contacts(family, m + other)), one + two)
            e = rng.randrange(n)
            higher = m.with_entry(e, (m[e][0] + 1, m[e][1]))
            self.assertGreaterEqual(fraction(contacts(family, higher)), one)
            least = sum(fraction(m[e]) for e in family.useful)
            self.assertGreaterEqual(one, least)
            if is_calm(family):
                self.assertEqual(one, least)
        for family in rich_families(2919, 40):
            if not is_calm(family):
                self.assertGreater(fraction(contacts(family)), len(family.useful))


class LeanRowsTest(Case):
    """Points 113 and 128."""

    def test_votes(self):
        for n in range(1, 6):
            for k in range(1, n + 1):
                due = sorted(set(permutations(vote_rises(k, n))))
                found = lean_rows(votes(k, n))
                self.assertTrue(type(found) is list and all(type(row) is Row for row in found))
                self.assertEqual([row.tops for row in found], due)
                self.assertTrue(all(row.is_whole for row in found))

    def test_contacts_of_votes(self):
        rng = random.Random(2920)
        for n in range(1, 8):
            for k in range(1, n + 1):
                row = random_row_of(rng, n, 9)
                self.assert_same(contacts(votes(k, n), row), vote_contacts(k, row))
                self.assert_same(contacts(votes(k, n)), (k * (n + 1 - k), 1))
                rises = Row(vote_rises(k, n))
                self.assertIs(is_enough(votes(k, n), rises), True)
                self.assertTrue(is_lean_row(votes(k, n), rises))

    def test_least_breaks(self):
        for small in (fan(3), fan(4), fan(5), ring(5), ~ring(5)):
            for family in (small, useless_beside(small, random.Random(9).sample(range(60), small.things), 60)):
                found = read_break(family)
                load = found.x * found.y
                gap = 1 - fraction(load.total())
                due = []
                for e in family.useful:
                    row = [Fraction(int(f in family.useful)) for f in range(family.things)]
                    row[e] += gap / fraction(load[e])
                    due.append(tuple(row))
                self.assertEqual([tuples(row) for row in lean_rows(family)], sorted(due))

    def test_ascending_and_least(self):
        rng = random.Random(2921)
        for family in rich_families(2922, 40, 3, 5):
            found = lean_rows(family)
            self.assertEqual([tuples(row) for row in found], sorted({tuples(row) for row in found}))
            self.assertTrue(all(is_lean_row(family, row) for row in found))
            weights = random_row_of(rng, family.things)
            self.assertEqual(min(sum_of(row, weights) for row in found), fraction(contacts(family, weights)))
            found.append(None)
            self.assertNotIn(None, lean_rows(family))


class FactsTest(Case):
    """Points 131, 132 and 134."""

    def test_between_things_and_strain(self):
        for family in rich_families(2923, 150) + some_families(2924, 60) + shapes():
            u, c, ell = len(family.useful), fraction(strain(family)), fraction(contacts(family))
            self.assertTrue(u - 1 + c <= ell <= u * c)
            self.assertIs(ell == u, is_calm(family))
            if not is_calm(family):
                self.assertGreaterEqual(ell, u + Fraction(1, u - 2))
            self.assertLessEqual(ell, (u + 1) * (u + 1) // 4)

    def test_top(self):
        for u in range(3, 8):
            top = (u + 1) * (u + 1) // 4
            ks = [(u + 1) // 2] if u % 2 else [u // 2, u // 2 + 1]
            for k in range(1, u + 1):
                self.assertIs(contacts(votes(k, u)) == (top, 1), k in ks)

    def test_least_breaks(self):
        for family, value in ((ring(5), 6), (ring(7), 8), (seven_lines(), 9), (~ring(5), 6), (~ring(7), 8)):
            found = read_break(family)
            self.assertEqual(found.small * found.wide, value)
            self.assert_same(contacts(family), (value, 1))
        for m in range(3, 8):
            self.assertEqual(fraction(contacts(fan(m))), m + Fraction(1, m - 2))

    def test_all_things_alike(self):
        alike = [ring(n) for n in range(3, 8)] + [votes(k, n) for n in range(1, 8) for k in range(1, n + 1)]
        for family in alike + [seven_lines(), four_points()]:
            self.assertEqual(fraction(contacts(family)), len(family.useful) * fraction(strain(family)))

    def test_links_and_leaves(self):
        for net in some_nets_with_ways(2925, 120):
            family = net_family(net)
            self.assertGreaterEqual(len(net), least_links(family))
            self.assertGreaterEqual(max(net.row_of_contacts().tops), fraction(strain(family)))
            if not is_calm(family):
                self.assertGreater(len(net), len(family.useful))
        for tree in any_trees(2926, 80, 7, 5):
            family, free = tree.family_on(5), tree.numbered().family_on(len(tree.leaves()))
            self.assertLessEqual(fraction(contacts(family)), fraction(contacts(free)))
            most = max(tree.leaf_row(5).tops)
            self.assertGreaterEqual(most, fraction(strain(family)) / fraction(strain(free)))
            self.assertGreaterEqual(fraction(price(family, tree.leaf_row(5))), 1 / fraction(strain(free)))

    def test_parts(self):
        for family in rich_families(2927, 60, 3, 6):
            ell = fraction(contacts(family))
            found = {}
            for thing, word, part in single_parts(family):
                value = fraction(contacts(part))
                self.assertLessEqual(value, ell - 1)
                found.setdefault(thing, []).append(value)
            for values in found.values():
                if len(values) == 2:
                    self.assertLessEqual(ell, sum(values) + 1)

    def test_apart(self):
        rng = random.Random(2928)
        for _ in range(40):
            one, two = rng.choice(rich_families(2929, 8, 3, 3)), rng.choice(some_families(2930, 8, 3))
            total = fraction(contacts(one)) + fraction(contacts(two))
            self.assertEqual(fraction(contacts(beside(one, two))), total)
            self.assertEqual(fraction(contacts(both(one, two))), total)

    def test_merged_or_and(self):
        rng = random.Random(2931)
        for family in rich_families(2932, 50, 4, 7):
            size = rng.randint(1, family.things)
            names = [rng.randrange(size) for _ in range(family.things)]
            self.assertLessEqual(fraction(contacts(merged(family, names, size))), fraction(contacts(family)))
        pool = rich_families(2933, 30, 5, 5) + some_families(2934, 60, 5)
        pool = [family for family in pool if family.things == 5]
        for _ in range(50):
            one, two = rng.choice(pool), rng.choice(pool)
            total = fraction(contacts(one)) + fraction(contacts(two))
            self.assertLessEqual(fraction(contacts(one | two)), total)
            self.assertLessEqual(fraction(contacts(one & two)), total)

    def test_parts_with_no_thing_in_common(self):
        # two threes side by side, joined by a thing: both are parts
        family = Family(7, [(0, 1), (0, 2), (1, 2), (3, 4), (3, 5), (4, 5), (2, 6), (3, 6)])
        self.assertGreaterEqual(fraction(contacts(family)), 8)

    def test_put_in(self):
        rng = random.Random(2935)
        single = Family.single()
        for _ in range(40):
            outer = rng.choice([ring(3), votes(1, 2), Family(3, [(0, 1), (2,)]), fan(4)])
            inner = [rng.choice([single, votes(2, 2), ring(3) if outer.things < 4 else single])
                     for _ in range(outer.things)]
            made = outer(inner)
            if len(made.useful) > 7:
                continue
            m = random_row_of(rng, made.things, 5)
            shares, start = [], 0
            for one in inner:
                shares.append(Row.of_amounts([m[start + f] for f in range(one.things)]))
                start += one.things
            values = Row.of_amounts([contacts(one, share) for one, share in zip(inner, shares)])
            self.assert_same(contacts(made, m), contacts(outer, values))
            prices = Row.of_amounts([price(one, share) for one, share in zip(inner, shares)])
            self.assertIs(is_enough(made, m), is_enough(outer, prices))
        pairs = ring(3)([votes(2, 2)] * 3)
        self.assertEqual(fraction(contacts(pairs)), fraction(contacts(ring(3))) * 2)


class CouplesTest(Case):
    """Point 135."""

    def test_mixes(self):
        broken = 0
        for family in some_couples(2936, 100) + [ring(n) for n in range(3, 8)] + [votes(2, n) for n in range(2, 8)]:
            mix = contact_mix(family)
            self.assertIs(type(mix), tuple)
            sets = [entry[0] for entry in mix]
            self.assertEqual(sets, sorted(set(sets)))
            for one, weight in mix:
                self.assertTrue(type(one) is tuple and is_amount(weight) and weight[0] > 0)
                self.assertTrue(set(one) <= set(family.useful) and not family.holds(one))
                self.assertEqual(one, tuple(sorted(one)))
            self.assertEqual(sum(fraction(weight) for _, weight in mix), 1)
            total = Fraction(len(family.useful))
            for e in family.useful:
                total += max(0, 1 - 2 * sum(fraction(weight) for one, weight in mix if e in one))
            self.assertEqual(total, fraction(contacts(family)))
            broken += total > len(family.useful)
        self.assertGreater(broken, 20)

    def test_whole_rows(self):
        rng = random.Random(2937)
        counts = {True: 0, False: 0}
        for family in some_couples(2938, 120, 6) + [ring(5), ring(7), votes(2, 4)]:
            useful = family.useful
            row = [rng.choice([1, 1, 2, 3]) if e in useful else 0 for e in range(family.things)]
            ones = [e for e in useful if row[e] == 1]
            inside = [lot for lot in family if set(lot) <= set(ones)]
            enough = not inside or is_calm(Family(family.things, inside))
            self.assertIs(is_enough(family, row), enough)
            counts[enough] += 1
        self.assertTrue(counts[True] > 20 and counts[False] > 10)

    def test_links_of_nets(self):
        for family in some_couples(2939, 40, 6):
            useful = family.useful
            least = min(len(s) for s in subsets(useful) if self.is_bipartite(family, s))
            ones = [2 if e in next(s for s in subsets(useful) if len(s) == least and self.is_bipartite(family, s))
                    else 1 for e in range(family.things)]
            self.assertIs(is_enough(family, ones), True)
            self.assertLessEqual(fraction(contacts(family)), len(useful) + least)

    def is_bipartite(self, family, things):
        """Tell whether the couples outside some things have no odd ring."""
        rest = [lot for lot in family if not set(lot) & set(things)]
        return not rest or is_calm(Family(family.things, rest))


class ErrorsTest(Case):
    """The errors, in their order."""

    def test_rows(self):
        for call in (contacts, enough_row, pair_weights, is_enough):
            self.assert_error(BadRow(-1), call, ring(8), [])
            self.assert_error(BadRow(1), call, ring(8), [1, -1])
            self.assert_error(OtherSize(7), call, ring(8), [1] * 7)
            self.assert_error(TooMany(7), call, ring(8), [1] * 8)
            for wrong in (5, "11", True, {0: 1}, Family.single()):
                self.assert_error(BadRow(-1), call, ring(3), wrong)
            for wrong in (-1, True, None, "1", 0.5, (1, 2)):
                self.assert_error(BadRow(1), call, ring(3), [1, wrong, -1])
            for size in (2, 4):
                self.assert_error(OtherSize(size), call, ring(3), [1] * size)
                self.assert_error(OtherSize(size), call, ring(3), Row([2] * size, 3))
        self.assert_row_errors(3, lambda row: is_enough(ring(3), row))

    def test_too_many(self):
        for family in (ring(8), Family(60, [list(range(60))]), votes(3, 9)):
            for call in (contacts, enough_row, pair_weights, least_links):
                self.assert_error(TooMany(7), call, family)
            self.assert_error(TooMany(7), is_enough, family, [1] * family.things)
            self.assert_error(TooMany(5), lean_rows, family)
        for family in (ring(6), votes(3, 7), seven_lines()):
            self.assert_error(TooMany(5), lean_rows, family)
        self.assertEqual(len(lean_rows(useless_beside(votes(2, 5), [3, 1, 59, 7, 20], 60))), 10)

    def test_couples(self):
        self.assert_error(NotCouples((1, 2, 3)), contact_mix, fan(4))
        self.assert_error(NotCouples((0, 1, 2)), contact_mix, votes(3, 9))
        self.assert_error(NotCouples((3,)), contact_mix, Family(60, [(0, 1), (3,)]))
        self.assert_error(TooMany(7), contact_mix, ring(8))
        self.assert_error(TooMany(7), contact_mix, votes(2, 60))
        self.assertEqual(contact_mix(votes(2, 2))[0][0], (0,))

    def test_trees_of_votes(self):
        # a net of the family of a vote that is not calm needs more links than it has leaves
        tree = Vote(2, [Leaf(0), Leaf(1), Leaf(2)])
        self.assertEqual(least_links(tree.family_on(3)), 4)
        self.assertEqual(contacts_by_loads(tree.family_on(3), [1, 1, 1]), 4)


if __name__ == "__main__":
    unittest.main()
