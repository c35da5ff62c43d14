"""Points 62 and 63: the faces of the strain."""

import random
import unittest
from fractions import Fraction
from math import gcd

from shortbynarrow.corners import corners_of
from shortbynarrow.errors import TooMany
from shortbynarrow.faces import lot_ratio, pack_ratio, widest_stretch, worst_lengths, worst_widths
from shortbynarrow.families import Family
from shortbynarrow.lengths import narrow, short
from shortbynarrow.mixes import mix_under, stretch
from shortbynarrow.packings import cap
from shortbynarrow.products import keeps
from shortbynarrow.rows import Row
from shortbynarrow.shapes import fan, ring, votes
from shortbynarrow.strains import is_calm, strain, worst_pair
from tests.brute import (
    all_families, amount_of, fraction, random_cover, random_row_of, rich_families, some_families, sum_of,
    useless_beside,
)
from tests.cases import Case


def pool(seed):
    """Return families of several kinds."""
    return all_families(2) + all_families(3) + some_families(seed, 40, 6) + rich_families(seed + 1, 50)


class FacesTest(Case):
    """Point 62."""

    def test_factor_of_the_rule(self):
        rng = random.Random(1001)
        for family in pool(1002):
            c = strain(family)
            for _ in range(3):
                l, w = random_row_of(rng, family.things), random_row_of(rng, family.things)
                self.assertTrue(keeps(family, c, l, w))
            l, w = worst_lengths(family), worst_widths(family)
            self.assertEqual(fraction(short(family, l)) * fraction(narrow(family, w)), fraction(c) * sum_of(l, w))
            self.assertFalse(keeps(family, amount_of(fraction(c) - Fraction(1, 1000)), l, w))

    def test_ratios(self):
        rng = random.Random(1003)
        seen = {True: 0, False: 0}
        for family in pool(1004):
            c = fraction(strain(family))
            for _ in range(3):
                row = random_row_of(rng, family.things)
                top, bottom = fraction(narrow(family, row)), fraction(cap(family, row))
                self.check_ratio(pack_ratio(family, row), top, bottom, c)
                top, bottom = fraction(short(family, row)), fraction(cap(~family, row))
                self.check_ratio(lot_ratio(family, row), top, bottom, c)
                seen[bottom == 0] += 1
            self.assert_same(pack_ratio(family, worst_widths(family)), strain(family))
            self.assert_same(lot_ratio(family, worst_lengths(family)), strain(family))
        self.assertGreater(min(seen.values()), 30)

    def check_ratio(self, found, top, bottom, most):
        """Check a ratio, which is None where the cap is zero."""
        if bottom == 0:
            self.assertIsNone(found)
        else:
            self.assert_same(found, amount_of(top / bottom))
            self.assertLessEqual(fraction(found), most)

    def test_ratio_edges(self):
        self.assertIsNone(pack_ratio(ring(3), [0, 0, 1]))
        self.assertIsNone(lot_ratio(ring(3), [0, 0, 1]))
        self.assert_same(pack_ratio(ring(3), [1, 1, 1]), (4, 3))
        self.assert_same(pack_ratio(votes(3, 3), [1, 0, 5]), None)
        self.assert_same(lot_ratio(votes(3, 3), [1, 0, 5]), (1, 1))
        self.assert_same(pack_ratio(ring(59), [10 ** 40] * 59), (60, 59))
        self.assert_same(lot_ratio(Family(60, [(0, 1), (2, 59)]), Row([1] * 60, 10 ** 40)), (1, 1))

    def test_stretches(self):
        rng = random.Random(1005)
        for family in pool(1006):
            c = strain(family)
            self.assert_same(widest_stretch(family), c)
            self.assert_same(widest_stretch(~family), c)
            values = [fraction(stretch(~family, x)) for x in corners_of(family)]
            self.assertEqual(max(values), fraction(widest_stretch(family)))
            cover = random_cover(rng, family).scaled(c)
            self.assertIsNotNone(mix_under(~family, cover))


class WorstRowsTest(Case):
    """Point 63."""

    def test_example(self):
        self.assertEqual([worst_lengths(fan(4)).tops, worst_widths(fan(4)).tops], [(2, 1, 1, 1), (2, 1, 1, 1)])

    def test_worst_rows(self):
        for family in pool(1011):
            x, y = worst_pair(family)
            l, w = worst_lengths(family), worst_widths(family)
            self.assertEqual((l, w), (x.bottom * x, y.bottom * y))
            self.assertIs(type(l), Row)
            self.assertIs(type(w), Row)
            self.assertTrue(l.is_whole and w.is_whole)
            self.assertEqual((gcd(*l.tops), gcd(*w.tops)), (1, 1))
            self.assertEqual(short(family, l), (x.bottom, 1))
            self.assertEqual(narrow(family, w), (y.bottom, 1))
            if is_calm(family):
                self.assertIn(l.support(), (~family).lots)
                self.assertIn(w.support(), family.lots)
                self.assertEqual((set(l.tops) | set(w.tops)) - {0, 1}, set())
                self.assertEqual(l.dot(w), (1, 1))


class SizesTest(Case):
    """The errors."""

    def test_errors(self):
        for call in (worst_lengths, worst_widths, widest_stretch):
            self.assert_error(TooMany(7), call, ring(8))
        for call in (pack_ratio, lot_ratio):
            self.assert_row_errors(3, lambda row, call=call: call(Family(3, [(0, 1)]), row))

    def test_useless_things(self):
        places = [1, 4, 15, 16, 37, 48, 59]
        family = useless_beside(ring(7), places, 60)
        self.assertEqual(worst_lengths(family).support(), tuple(places))
        self.assert_same(widest_stretch(family), (8, 7))


if __name__ == "__main__":
    unittest.main()
