"""Points 46 to 51, 58 and 60: the price of a family."""

import random
import unittest
from fractions import Fraction

from shortbynarrow.corners import broken_corners, corners_of
from shortbynarrow.errors import BadRow, OtherSize, TooMany
from shortbynarrow.families import Family
from shortbynarrow.lengths import narrow, short
from shortbynarrow.packings import cap
from shortbynarrow.pairs import is_pair
from shortbynarrow.pricing import best_pair, best_pairs, price, price_limit, sum_of_pair
from shortbynarrow.putting import beside, both, merged
from shortbynarrow.rows import Row
from shortbynarrow.shapes import fan, four_points, ring, seven_lines, votes
from tests.brute import (
    all_families, amount_of, fraction, pairs_by_definition, price_by_definition, random_cover, random_family,
    random_row_of, rich_families, some_families, sum_of, tuples, useless_beside,
)
from tests.cases import Case


def price_at(family, tolls):
    """Return the price as a Fraction."""
    return fraction(price(family, tolls))


def small_and_rich():
    """Return families of few things, with and without broken corners."""
    return some_families(401, 60) + rich_families(402, 60, 3, 6)


class PriceTest(Case):
    """Points 46 and 47."""

    def test_example(self):
        x, y = best_pair(ring(3), [2, 2, 3])
        self.assertEqual(
            [price(ring(3), [1, 1, 1]), price(ring(3), [2, 2, 3]), price(ring(3), [1, 9, 9]), list(x), list(y)],
            [(3, 4), (7, 4), (1, 1), [(1, 2), (1, 2), (1, 2)], [(1, 2), (1, 2), (1, 2)]])

    def check(self, family, pairs, tolls):
        """Check price and best pairs against all pairs of corners."""
        value, best = price_by_definition(pairs, tolls)
        self.assert_same(price(family, tolls), amount_of(value))
        found = best_pairs(family, tolls)
        self.assertIs(type(found), list)
        self.assertTrue(all(type(pair) is tuple and len(pair) == 2 for pair in found))
        self.assertTrue(all(type(row) is Row for pair in found for row in pair))
        self.assertEqual([(tuples(x), tuples(y)) for x, y in found], best)
        first = best_pair(family, tolls)
        self.assertIs(type(first), tuple)
        self.assertEqual((tuples(first[0]), tuples(first[1])), best[0])

    def test_all_small_families(self):
        rng = random.Random(403)
        for things in (1, 2, 3):
            for family in all_families(things):
                pairs = pairs_by_definition(family)
                for tolls in (Row.ones(things), Row([0] * things), random_row_of(rng, things)):
                    self.check(family, pairs, tolls)

    def test_random(self):
        rng = random.Random(404)
        for family in some_families(405, 20, 4, 6) + rich_families(406, 12, 4, 5):
            pairs = pairs_by_definition(family)
            for tolls in (Row.ones(family.things), random_row_of(rng, family.things),
                          Row([rng.randint(1, 3) for _ in range(family.things)], 2)):
                self.check(family, pairs, tolls)

    def test_blocker(self):
        rng = random.Random(407)
        for family in small_and_rich():
            tolls = random_row_of(rng, family.things)
            self.assert_same(price(~family, tolls), price(family, tolls))
            turned = {(tuples(y), tuples(x)) for x, y in best_pairs(~family, tolls)}
            self.assertEqual(turned, {(tuples(x), tuples(y)) for x, y in best_pairs(family, tolls)})

    def test_no_pair_has_less(self):
        rng = random.Random(408)
        for family in small_and_rich():
            tolls = random_row_of(rng, family.things)
            x, y = random_cover(rng, family), random_cover(rng, ~family)
            self.assertTrue(is_pair(family, x, y))
            self.assertGreaterEqual(sum_of(x, y, tolls), price_at(family, tolls))

    def test_shapes(self):
        prices = [(ring(3), (3, 4)), (seven_lines(), (7, 9)), (ring(5), (5, 6)), (ring(7), (7, 8)),
                  (votes(2, 4), (2, 3)), (fan(4), (7, 9)), (votes(4, 7), (7, 16)), (four_points(), (1, 1))]
        for family, value in prices:
            self.assert_same(price(family, [1] * family.things), value)
        self.assertEqual(price(Family.single(), [5]), (5, 1))
        self.assertEqual(price(Family.single(), Row([2], 6)), (1, 3))

    def test_lists_are_new(self):
        found = best_pairs(ring(3), [0, 0, 0])
        self.assertEqual(len(found), 16)
        found.clear()
        self.assertEqual(len(best_pairs(ring(3), [0, 0, 0])), 16)


class SumsTest(Case):
    """Points 46 and 48."""

    def test_sum_of_pair(self):
        rng = random.Random(411)
        for _ in range(100):
            size = rng.randint(1, 6)
            rows = [random_row_of(rng, size) for _ in range(3)]
            self.assert_same(sum_of_pair(*rows), amount_of(sum_of(*rows)))
        self.assertEqual(sum_of_pair([1, 2], (3, 4), Row([1, 5], 2)), (43, 2))
        self.assertEqual(sum_of_pair([1] * 70, [2] * 70, [3] * 70), (420, 1))

    def test_sum_of_pair_errors(self):
        for wrong in [None, [], (), [-1], [True], 3, [[1]]]:
            place = 0 if isinstance(wrong, list) and wrong else -1
            self.assert_error(BadRow(place), sum_of_pair, wrong, None, None)
            self.assert_error(BadRow(place), sum_of_pair, [1], wrong, None)
            self.assert_error(BadRow(place), sum_of_pair, [1], [1], wrong)
        self.assert_row_errors(3, lambda row: sum_of_pair([1, 1, 1], row, None))
        self.assert_row_errors(3, lambda row: sum_of_pair(Row([1, 1, 1], 2), [1, 1, 1], row))

    def test_price_limit(self):
        rng = random.Random(412)
        seen = {True: 0, False: 0}
        for family in small_and_rich():
            l, w, q = [random_row_of(rng, family.things) for _ in range(3)]
            product = fraction(short(family, l)) * fraction(narrow(family, w))
            found = price_limit(family, l, w, tolls=q)
            seen[found is None] += 1
            if product == 0:
                self.assertIsNone(found)
            else:
                self.assert_same(found, amount_of(sum_of(l, w, q) / product))
                self.assertGreaterEqual(fraction(found), price_at(family, q))
            self.assertLessEqual(product * price_at(family, q), sum_of(l, w, q))
            ones = Row.ones(family.things)
            self.assert_same(price_limit(family, l, w), price_limit(family, l, w, tolls=ones))
            for x, y in best_pairs(family, q)[:3]:
                self.assertEqual((short(family, x), narrow(family, y)), ((1, 1), (1, 1)))
                self.assert_same(price_limit(family, x, y, tolls=q), price(family, q))
                self.assert_same(price_limit(family, 3 * x, 5 * y, tolls=2 * ones),
                                 price_limit(family, x, y, tolls=[2] * family.things))
        self.assertGreater(min(seen.values()), 15)

    def test_price_limit_edges(self):
        self.assertIsNone(price_limit(ring(3), [1, 0, 0], [1, 1, 1]))
        self.assertIsNone(price_limit(ring(3), [1, 1, 1], [1, 0, 0]))
        self.assert_same(price_limit(ring(3), [1, 1, 1], [1, 1, 1], tolls=[0, 0, 0]), (0, 1))
        self.assert_same(price_limit(ring(60), [1] * 60, [1] * 60, tolls=None), (1, 1))
        self.assert_same(price_limit(ring(59), [10 ** 40] * 59, [1] * 59), (59, 60))

    def test_price_limit_errors(self):
        family = ring(3)
        self.assert_row_errors(3, lambda row: price_limit(family, row, None, tolls=5))
        self.assert_row_errors(3, lambda row: price_limit(family, [0, 0, 0], row, tolls=5))
        for wrong in [5, [], [1, -1, 1], [1, 1]]:
            expected = {5: BadRow(-1), 0: BadRow(-1), 3: BadRow(1), 2: OtherSize(2)}
            key = wrong if wrong == 5 else len(wrong)
            self.assert_error(expected[key], price_limit, family, [0, 0, 0], [1, 1, 1], tolls=wrong)
        with self.assertRaises(TypeError):
            price_limit(family, [1, 1, 1], [1, 1, 1], [1, 1, 1])


class TollsTest(Case):
    """Points 49 and 50."""

    def test_tolls_together(self):
        rng = random.Random(421)
        for family in small_and_rich():
            q, r = random_row_of(rng, family.things), random_row_of(rng, family.things)
            value = price_at(family, q)
            for k in (0, 1, 3, 10 ** 20):
                self.assertEqual(price_at(family, k * q), k * value)
            self.assertEqual(price_at(family, q.scaled((7, 3))), Fraction(7, 3) * value)
            self.assertGreaterEqual(price_at(family, q + r), value + price_at(family, r))
            useless = [e for e in range(family.things) if e not in family.useful]
            for e in useless:
                self.assert_same(price(family, q.with_entry(e, 99)), price(family, q))
            self.assertIs(value == 0, any(q[e] == (0, 1) for e in family.useful))

    def test_least_useful_toll(self):
        rng = random.Random(422)
        seen = {True: 0, False: 0}
        for family in small_and_rich():
            ones = Row.ones(family.things)
            for _ in range(3):
                q = Row([rng.randint(3, 5) for _ in range(family.things)], rng.randint(1, 3))
                least = min(fraction(q[e]) for e in family.useful)
                value = price_at(family, q)
                self.assertLessEqual(value, least)
                self.assertGreaterEqual(value, price_at(family, ones) * least)
                sums = [sum_of(x, y, q) for x in broken_corners(family) for y in broken_corners(~family)]
                self.assertEqual(value, min([least, *sums]))
                if price_at(family, ones) == 1:
                    self.assertEqual(value, least)
                seen[value == least] += 1
            self.assertIs(price_at(family, ones) == 1, not broken_corners(family))
        self.assertGreater(min(seen.values()), 20)
        # a family with broken corners whose price is the least toll at these tolls
        self.assert_same(price(ring(3), [1, 9, 9]), (1, 1))

    def test_useful_pair(self):
        for family in small_and_rich():
            q = Row([3 + e for e in range(family.things)])
            for e in family.useful:
                a, b = next((a, b) for a in family for b in ~family if set(a) & set(b) == {e})
                pair = (Row.of_set(b, family.things), Row.of_set(a, family.things))
                self.assertTrue(is_pair(family, *pair))
                self.assertEqual(sum_of_pair(*pair, q), q[e])


class PackingsTest(Case):
    """Point 51."""

    def test_price_by_packings(self):
        rng = random.Random(431)
        for family in small_and_rich():
            q = random_row_of(rng, family.things)
            caps = [fraction(cap(family, q * y)) for y in corners_of(~family)]
            self.assertEqual(price_at(family, q), min(caps))
            w = random_row_of(rng, family.things)
            bound = price_at(family, q) * fraction(narrow(family, w))
            self.assertGreaterEqual(fraction(cap(family, q * w)), bound)


class JoinedTest(Case):
    """Point 58."""

    def test_merged(self):
        rng = random.Random(441)
        for _ in range(80):
            things, size = rng.randint(1, 5), rng.randint(1, 5)
            inner = rng.choice(rich_families(rng.randint(0, 10 ** 6), 1, 3, 6) + [random_family(rng, things)])
            names = [rng.randrange(size) for _ in range(inner.things)]
            made = merged(inner, names, size)
            q = random_row_of(rng, inner.things)
            sums = Row([sum([q.tops[e] for e, name in enumerate(names) if name == k]) for k in range(size)],
                       q.bottom)
            self.assertGreaterEqual(price_at(made, sums), price_at(inner, q))
            order = rng.sample(range(7), inner.things)
            spread = Row.of_amounts([q[order.index(k)] if k in order else (5, 1) for k in range(7)])
            self.assert_same(price(merged(inner, order, 7), spread), price(inner, q))

    def test_or_and(self):
        rng = random.Random(442)
        for one in rich_families(443, 40, 3, 6):
            two = random_family(rng, one.things)
            q, r = random_row_of(rng, one.things), random_row_of(rng, one.things)
            least = min(price_at(one, q), price_at(two, r))
            self.assertGreaterEqual(price_at(one | two, q + r), least)
            self.assertGreaterEqual(price_at(one & two, q + r), least)

    def test_side_by_side(self):
        rng = random.Random(444)
        for one in rich_families(445, 40, 3, 4):
            two = random_family(rng, rng.randint(1, 3))
            q, r = random_row_of(rng, one.things), random_row_of(rng, two.things)
            tolls = Row.of_amounts([*q, *r])
            least = min(price_at(one, q), price_at(two, r))
            self.assertEqual(price_at(beside(one, two), tolls), least)
            self.assertEqual(price_at(both(one, two), tolls), least)


class SizesTest(Case):
    """Point 60 and the errors."""

    def test_errors(self):
        for call in (price, best_pair, best_pairs):
            self.assert_row_errors(3, lambda row, call=call: call(Family(3, [(0, 1)]), row))
            self.assert_error(TooMany(7), call, ring(8), [1] * 8)
            self.assert_error(OtherSize(3), call, ring(8), [1] * 3)
            self.assert_error(BadRow(8), call, ring(8), [1] * 8 + [-1])

    def test_useless_things(self):
        rng = random.Random(451)
        places = [0, 7, 13, 28, 44, 58, 59]
        for small in (ring(7), votes(4, 7), seven_lines()):
            family = useless_beside(small, places, 60)
            tolls = Row([rng.randint(1, 10 ** 40) for _ in range(60)], rng.randint(1, 10 ** 40))
            short_tolls = Row.of_amounts([tolls[e] for e in places])
            self.assert_same(price(family, tolls), price(small, short_tolls))
            x, y = best_pair(family, tolls)
            self.assertEqual([x[e] for e in places], list(best_pair(small, short_tolls)[0]))
            self.assertEqual(x.total(), best_pair(small, short_tolls)[0].total())
            self.assertEqual(len(best_pairs(family, tolls)), len(best_pairs(small, short_tolls)))
            self.assert_same(sum_of_pair(x, y, tolls), price(family, tolls))

    def test_seven_useful_things(self):
        for family in rich_families(452, 12, 7, 7):
            tolls = Row([10 ** 39 + 17 ** e for e in range(7)], 10 ** 38)
            x, y = best_pair(family, tolls)
            self.assert_same(sum_of_pair(x, y, tolls), price(family, tolls))


if __name__ == "__main__":
    unittest.main()
