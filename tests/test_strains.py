"""Points 61 and 67 to 69: the strain, of parts and of families that are made of others."""

import random
import unittest
from collections import Counter
from fractions import Fraction

from shortbynarrow.corners import broken_corners
from shortbynarrow.errors import BadSet, Clash, TooMany
from shortbynarrow.families import Family
from shortbynarrow.partprices import rests
from shortbynarrow.parts import is_lost, part
from shortbynarrow.pricing import best_pairs, price
from shortbynarrow.putting import beside, both, merged
from shortbynarrow.rows import Row
from shortbynarrow.shapes import block, fan, four_points, ring, seven_lines, votes
from shortbynarrow.strains import is_calm, strain, strain_of_part, worst_pair
from tests.brute import (
    all_families, amount_of, fraction, pairs_by_definition, price_by_definition, random_family,
    rich_families, some_families, tuples, useless_beside,
)
from tests.cases import Case

S = Family.single()


def strain_at(family):
    """Return the strain as a Fraction."""
    return fraction(strain(family))


class StrainTest(Case):
    """Point 61."""

    def test_example(self):
        self.assert_same(strain(votes(2, 4)), (3, 2))

    def check(self, family):
        """Check the strain against all pairs of corners."""
        value, best = price_by_definition(pairs_by_definition(family), Row.ones(family.things))
        self.assert_same(strain(family), amount_of(1 / value))
        self.assertIs(is_calm(family), value == 1)
        found = worst_pair(family)
        self.assertIs(type(found), tuple)
        self.assertTrue(all(type(row) is Row for row in found))
        self.assertEqual((tuples(found[0]), tuples(found[1])), best[0])

    def test_against_the_definition(self):
        for things in (1, 2, 3):
            for family in all_families(things):
                self.check(family)
        for family in some_families(901, 10, 4, 6) + rich_families(902, 12, 4, 5):
            self.check(family)

    def test_facts(self):
        seen = {True: 0, False: 0}
        for family in some_families(903, 60, 6) + rich_families(904, 60):
            value = strain_at(family)
            self.assertGreaterEqual(value, 1)
            self.assert_same(strain(~family), strain(family))
            self.assertIs(is_calm(family), not broken_corners(family))
            self.assertIs(is_calm(family), strain(family) == (1, 1))
            seen[is_calm(family)] += 1
            if value > 1:
                for x, y in best_pairs(family, [1] * family.things):
                    self.assertFalse(x.is_whole or y.is_whole)
        self.assertGreater(min(seen.values()), 20)

    def test_shapes(self):
        known = [(ring(3), (4, 3)), (ring(5), (6, 5)), (ring(7), (8, 7)), (ring(6), (1, 1)), (fan(4), (9, 7)),
                 (fan(5), (16, 13)), (seven_lines(), (9, 7)), (four_points(), (1, 1)), (block(2, 3), (1, 1)),
                 (votes(4, 7), (16, 7)), (votes(3, 5), (9, 5)), (S, (1, 1))]
        for family, value in known:
            self.assert_same(strain(family), value)
            self.assertIs(is_calm(family), value == (1, 1))
        half = Row([1, 1, 1], 2)
        self.assertEqual(worst_pair(ring(3)), (half, half))
        self.assertEqual(worst_pair(ring(4)), (Row([0, 1, 0, 1]), Row([0, 0, 1, 1])))

    def test_useless_things(self):
        for family in rich_families(905, 10, 3, 7):
            places = sorted(random.Random(906).sample(range(60), family.things))
            great = useless_beside(family, places, 60)
            self.assert_same(strain(great), strain(family))
            self.assertIs(is_calm(great), is_calm(family))
            x, y = worst_pair(great)
            self.assertEqual(([x[e] for e in places], [y[e] for e in places]),
                             tuple(list(row) for row in worst_pair(family)))

    def test_too_many(self):
        for call in (strain, is_calm, worst_pair):
            self.assert_error(TooMany(7), call, ring(8))
            self.assert_error(TooMany(7), call, Family(60, [tuple(range(8))]))


class PutInTest(Case):
    """Point 67."""

    def test_put_in(self):
        rng = random.Random(911)
        for _ in range(60):
            outer = rng.choice([ring(3), votes(2, 2), random_family(rng, rng.randint(1, 3), 3)])
            families = [rng.choice([S, ring(3), random_family(rng, rng.randint(1, 3), 3)])
                        for _ in range(outer.things)]
            if len(outer(families).useful) > 7:
                continue
            value = strain_at(outer(families))
            tolls = [1 / strain_at(inner) for inner in families]
            row = Row.of_amounts([amount_of(toll) for toll in tolls])
            self.assertEqual(1 / value, fraction(price(outer, row)))
            greatest = max(1 / tolls[e] for e in outer.useful)
            self.assertGreaterEqual(value, strain_at(outer))
            self.assertGreaterEqual(value, greatest)
            self.assertLessEqual(value, strain_at(outer) * greatest)
            # a family may be exchanged for another one of the same strain
            other = [votes(1, 2) if is_calm(inner) else Family(3, inner.lots[::-1]) for inner in families]
            if len(outer(other).useful) <= 7:
                self.assertEqual(strain_at(outer(other)), value)

    def test_equal_strains(self):
        self.assert_same(strain(votes(2, 2)([ring(3), ring(3)])), (4, 3))
        self.assert_same(strain(ring(3)([votes(1, 2), votes(2, 2), votes(1, 3)])), (4, 3))
        self.assert_same(strain(ring(3)([ring(3), S, S])), (16, 11))


class PartsTest(Case):
    """Point 68."""

    def test_strain_of_part(self):
        rng = random.Random(921)
        for family in all_families(2) + some_families(922, 40) + rich_families(923, 40, 3, 6):
            for _ in range(6):
                sides = [rng.randint(0, 2) for _ in range(family.things)]
                left = [e for e, side in enumerate(sides) if side == 1]
                kept = [e for e, side in enumerate(sides) if side == 2][::-1]
                found = strain_of_part(family, left, kept)
                if is_lost(family, left, kept):
                    self.assertIsNone(found)
                else:
                    self.assert_same(found, strain(part(family, left, kept)))
                    self.assertLessEqual(fraction(found), strain_at(family))
            self.assert_same(strain_of_part(family, (), ()), strain(family))

    def test_parts_by_one_thing(self):
        for family in all_families(3) + some_families(924, 40) + rich_families(925, 60, 3, 6):
            for e in range(family.things):
                found = [strain_of_part(family, [], [e]), strain_of_part(family, [e], [])]
                found = [fraction(value) for value in found if value is not None]
                resting = rests(family, [1] * family.things, e)
                if found:
                    self.assertIs(max(found) == strain_at(family), resting)
                else:
                    self.assertEqual(family.lots, ((e,),))
                    self.assertIs(resting, False)

    def test_errors(self):
        family = Family(3, [(0, 1)])
        self.assert_set_errors(3, lambda left: strain_of_part(family, left, None))
        self.assert_set_errors(3, lambda kept: strain_of_part(family, [0, 1], kept))
        self.assert_error(Clash(1), strain_of_part, family, [2, 1], [1, 2])
        nine = ring(9)
        self.assert_error(TooMany(7), strain_of_part, nine, [], [])
        self.assert_error(TooMany(7), strain_of_part, nine, [4], [])
        self.assert_error(BadSet(0), strain_of_part, nine, [9], [9])
        self.assert_error(Clash(4), strain_of_part, nine, [4], [4])
        self.assert_same(strain_of_part(nine, [0, 8], []), (1, 1))
        self.assertIsNone(strain_of_part(nine, [], [0, 1]))
        self.assert_same(strain_of_part(votes(2, 9), [5, 6, 7, 8], []), (8, 5))


class MadeOfOthersTest(Case):
    """Point 69."""

    def test_merged(self):
        rng = random.Random(931)
        for inner in rich_families(932, 60, 3, 7):
            size = rng.randint(2, 5)
            names = [rng.randrange(size) for _ in range(inner.things)]
            most = max(Counter(names[e] for e in inner.useful).values())
            self.assertLessEqual(strain_at(merged(inner, names, size)), strain_at(inner) * most)

    def test_or_and(self):
        rng = random.Random(933)
        for one in rich_families(934, 60):
            two = rng.choice([random_family(rng, one.things), Family(one.things, rich_families(
                rng.randrange(10 ** 6), 1, one.things, one.things)[0].lots)])
            total = strain_at(one) + strain_at(two)
            self.assertLessEqual(strain_at(one | two), total)
            self.assertLessEqual(strain_at(one & two), total)

    def test_side_by_side(self):
        rng = random.Random(935)
        for one in rich_families(936, 30, 3, 4):
            two = random_family(rng, rng.randint(1, 3))
            greater = max(strain_at(one), strain_at(two))
            self.assertEqual(strain_at(beside(one, two)), greater)
            self.assertEqual(strain_at(both(one, two)), greater)
        self.assertEqual(strain_at(beside(ring(3), fan(4))), Fraction(4, 3))


if __name__ == "__main__":
    unittest.main()
