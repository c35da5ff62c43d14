"""Points 107, 108 and 110: hues, the price and the strain of couples."""

import random
import unittest
from fractions import Fraction

from shortbynarrow.corners import corners_of
from shortbynarrow.couples import greatest_quiet, hueing, is_couples, joined
from shortbynarrow.covers import is_cover
from shortbynarrow.errors import BadFamily, NotCouples
from shortbynarrow.families import Family
from shortbynarrow.hues import couple_price, couple_strain, half_row, hue_bound, hues, quiet_mix
from shortbynarrow.packings import cap, cheapest_cover
from shortbynarrow.pricing import price
from shortbynarrow.putting import beside
from shortbynarrow.rows import Row
from shortbynarrow.shapes import fan, four_points, ring, seven_lines, votes
from shortbynarrow.strains import strain
from tests.brute import (
    all_families, amount_of, corners_by_definition, fraction, fractions, is_amount, random_row_of, rich_families,
    some_families, useless_beside,
)
from tests.cases import Case
from tests.test_couples import random_couples, some_couples


def with_two_or_more(families):
    """Return the families of least size 2 or more."""
    return [family for family in families if family.least_size() > 1]


def hues_by_corners(family):
    """Return the hues as a Fraction, from the least sum of a corner of the blocker."""
    total = min(sum(corner) for corner in corners_by_definition(~family))
    return total / (total - 1)


class HuesTest(Case):
    """Point 107."""

    def test_example(self):
        self.assertEqual(
            [hues(ring(5)), couple_price(ring(5), [1, 1, 1, 1, 1]), hues(joined(ring(5), votes(2, 2))),
             hue_bound(fan(4))],
            [(5, 2), (5, 6), (9, 2), (6, 5)])

    def test_hues_and_mixes(self):
        families = all_families(3) + some_families(2201, 60) + some_couples(2202, 30, 5) + rich_families(2203, 20, 3, 5)
        for family in with_two_or_more(families):
            h = hues(family)
            self.assertTrue(is_amount(h))
            self.assertEqual(fraction(h), hues_by_corners(family))
            self.check_mix(family, h)
            self.check_cover(family, h)
            self.assertLessEqual(fraction(h), len(hueing(family)))
            self.assertGreaterEqual(fraction(h), Fraction(len(family.useful), greatest_quiet(family)))

    def check_mix(self, family, h):
        """Check the mix of quiet sets that shows that the hues are not more than h."""
        mix = quiet_mix(family)
        self.assertIs(type(mix), tuple)
        sets = [entry[0] for entry in mix]
        self.assertEqual(sets, sorted(set(sets)))
        for entry in mix:
            self.assertTrue(type(entry) is tuple and len(entry) == 2 and type(entry[0]) is tuple)
            self.assertTrue(is_amount(entry[1]) and entry[1][0] > 0)
            self.assertFalse(family.holds(entry[0]))
            self.assertTrue(set(entry[0]) <= set(family.useful))
            self.assertEqual(entry[0], tuple(sorted(entry[0])))
        self.assertEqual(sum(fraction(weight) for _, weight in mix), 1)
        for e in family.useful:
            weight = sum(fraction(amount) for one, amount in mix if e in one)
            self.assertGreaterEqual(weight, 1 / fraction(h))

    def check_cover(self, family, h):
        """Check the cover of the blocker that shows that the hues are not less than h."""
        due = fraction(h) / (fraction(h) - 1)
        cover = cheapest_cover(~family, Row.ones(family.things))
        self.assertTrue(is_cover(~family, cover))
        self.assertEqual(sum(fraction(cover[e]) for e in family.useful), due)
        self.assertEqual(fraction(cap(~family, Row.ones(family.things))), due)

    def test_hue_bound(self):
        for family in with_two_or_more(rich_families(2204, 120) + some_families(2205, 80) + some_couples(2206, 40)):
            found = hue_bound(family)
            r = family.least_size()
            self.assert_same(found, amount_of(r * (1 - 1 / fraction(hues(family)))))
            self.assertLessEqual(fraction(found), fraction(strain(family)))
            if is_couples(family):
                self.assertEqual(found, strain(family))
        for n in range(2, 8):
            for k in range(2, n + 1):
                self.assertEqual(hue_bound(votes(k, n)), strain(votes(k, n)))
        self.assertEqual(hue_bound(seven_lines()), strain(seven_lines()))
        self.assertLess(fraction(hue_bound(fan(4))), fraction(strain(fan(4))))

    def test_beside(self):
        rng = random.Random(2207)
        pool = with_two_or_more(some_families(2208, 60, 4) + [ring(5), votes(2, 4), four_points()])
        for _ in range(50):
            one, two = rng.choice(pool), rng.choice(pool)
            due = max(fraction(hues(one)), fraction(hues(two)))
            self.assertEqual(fraction(hues(beside(one, two))), due)

    def test_useless_things(self):
        rng = random.Random(2209)
        for small in (ring(5), votes(2, 4), fan(5), seven_lines()):
            family = useless_beside(small, rng.sample(range(60), small.things), 60)
            self.assertEqual(hues(family), hues(small))
            self.assertEqual(hue_bound(family), hue_bound(small))
            self.check_mix(family, hues(family))

    def test_great_families(self):
        # 200 lots and a blocker of 200 lots or less
        self.assert_same(hues(votes(2, 20)), (20, 1))
        self.assert_same(hues(ring(17)), (17, 8))
        sides = Family(60, [(a, 59 - b) for a in range(20) for b in range(10)])
        self.assert_same(hues(sides), (2, 1))
        self.check_mix(sides, (2, 1))
        three = Family(60, [(a, 20 + b) for a in range(6) for b in range(6)]
                       + [(a, 40 + b) for a in range(6) for b in range(6)]
                       + [(20 + a, 40 + b) for a in range(6) for b in range(6)])
        self.assert_same(hues(three), (3, 1))
        self.check_mix(three, (3, 1))


class CouplePriceTest(Case):
    """Point 108."""

    def test_prices(self):
        rng = random.Random(2210)
        for family in some_couples(2211, 120) + [ring(n) for n in range(3, 8)] + [votes(2, n) for n in range(2, 8)]:
            n = family.things
            rows = [Row.ones(n), random_row_of(rng, n), random_row_of(rng, n, 9), Row([0] * n),
                    Row([rng.randint(1, 3) for _ in range(n)], 2)]
            for tolls in rows:
                self.assert_same(couple_price(family, tolls), price(family, tolls))
            self.assert_same(couple_price(family, list(range(n))), price(family, list(range(n))))
            self.assert_same(couple_strain(family), strain(family))
            self.assertEqual(fraction(couple_strain(family)), 2 - 2 / fraction(hues(family)))

    def test_corners(self):
        for family in some_couples(2212, 60):
            for corner in corners_of(family):
                self.assertTrue(set(corner) <= {(0, 1), (1, 2), (1, 1)})

    def test_half_row(self):
        for family in some_couples(2213, 60):
            row = half_row(family)
            self.assertIs(type(row), Row)
            self.assertEqual(list(row), [(1, 2) if e in family.useful else (0, 1) for e in range(family.things)])
            self.assertTrue(is_cover(family, row))
            sums = [sum(a * b for a, b in zip(fractions(row), fractions(y))) for y in corners_of(~family)]
            self.assertEqual(min(sums), 1 / fraction(couple_strain(family)))
            self.assertIn(amount_of(min(sums)), [row.dot(y) for y in corners_of(~family)])

    def test_great_families(self):
        tolls = Row([10 ** 39 + 7 * e for e in range(60)], 3)
        family = useless_beside(ring(15), list(range(0, 60, 4)), 60)
        small = Row.of_amounts([tolls[e] for e in range(0, 60, 4)])
        self.assert_same(couple_price(family, tolls), couple_price(ring(15), small))
        self.assert_same(couple_price(votes(2, 20), [1] * 20), (10, 19))
        self.assert_same(couple_strain(ring(17)), (18, 17))
        self.assert_same(couple_strain(ring(18)), (1, 1))
        self.assertEqual(half_row(votes(2, 60)), Row([1] * 60, 2))


class ErrorsTest(Case):
    """The errors."""

    def test_least_size_one(self):
        for family in (Family.single(), Family(60, [(59,), (0, 1)]), votes(1, 5), ~votes(5, 5)):
            for call in (hues, quiet_mix, hue_bound):
                self.assert_error(BadFamily(0), call, family)

    def test_couples_ahead_of_rows(self):
        self.assert_row_errors(5, lambda row: couple_price(ring(5), row))
        for wrong in (None, [-1], [1], [1] * 4):
            self.assert_error(NotCouples((1, 2, 3)), couple_price, fan(4), wrong)
        self.assert_error(NotCouples((1, 2, 3)), couple_strain, fan(4))
        self.assert_error(NotCouples((1, 2, 3)), half_row, fan(4))

    def test_any_family_has_hues(self):
        rng = random.Random(2214)
        for family in (fan(5), seven_lines(), votes(3, 6), ~ring(7)):
            self.assertTrue(is_amount(hues(family)) and is_amount(hue_bound(family)))
        self.assertTrue(is_couples(random_couples(rng, 5, 4)))


if __name__ == "__main__":
    unittest.main()
