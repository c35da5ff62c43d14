"""Points 71 to 75: block families, whole packings, one thing."""

import random
import unittest
from fractions import Fraction

from shortbynarrow.blocks import block_family, block_sizes, worst_blocks
from shortbynarrow.errors import Lost, TooMany
from shortbynarrow.faces import worst_lengths, worst_widths
from shortbynarrow.families import Family
from shortbynarrow.lengths import narrow, short
from shortbynarrow.packings import whole
from shortbynarrow.partprices import far_toll
from shortbynarrow.parts import is_lost, part
from shortbynarrow.pricing import price
from shortbynarrow.products import keeps_at, worst_entries
from shortbynarrow.rows import Row
from shortbynarrow.shapes import block, four_points, ring, votes
from shortbynarrow.strains import is_calm, strain, strain_of_part
from tests.brute import (
    all_families, amount_of, fraction, random_row_of, rich_families, some_families,
)
from tests.cases import Case


def block_by_definition(family, lengths, widths):
    """Return the part, and the block family made of blocks and single families."""
    kept = [e for e in range(family.things) if lengths[e] == 0]
    left = [e for e in range(family.things) if lengths[e] > 0 and widths[e] == 0]
    if is_lost(family, left, kept):
        return None, None
    small = part(family, left, kept)
    inner = [block(l, w) if l and w else Family.single() for l, w in zip(lengths, widths)]
    return small, small(inner)


class BlockFamilyTest(Case):
    """Points 71 and 72."""

    def test_example(self):
        self.assertEqual(block_sizes(votes(2, 3), [0, 2, 1], [3, 1, 0]), (2, 1, 2))

    def test_against_the_definition(self):
        rng = random.Random(1201)
        seen = {"lost": 0, "things": 0, "lots": 0, "made": 0}
        for family in some_families(1202, 150, 5, 5) + [ring(3), votes(2, 4)] * 20:
            lengths = [rng.randint(0, 3) for _ in range(family.things)]
            widths = [rng.randint(0, 3) for _ in range(family.things)]
            kept = [e for e in range(family.things) if lengths[e] == 0]
            left = [e for e in range(family.things) if lengths[e] > 0 and widths[e] == 0]
            if is_lost(family, left, kept):
                with self.assertRaises(Lost) as caught:
                    part(family, left, kept)
                error = caught.exception
                self.assert_error(Lost(error.thing, error.word), block_family, family, lengths, widths)
                self.assert_error(Lost(error.thing, error.word), block_sizes, family, lengths, widths)
                seen["lost"] += 1
                continue
            small, made = block_by_definition(family, lengths, widths)
            many = sum(l * w for l, w in zip(lengths, widths))
            sizes = block_sizes(family, lengths, widths)
            self.assert_same(sizes, (short(small, lengths)[0], narrow(small, widths)[0], many))
            self.assertEqual(sizes[0], made.least_size())
            self.assertLessEqual(sizes[0] * sizes[1], fraction(strain(family)) * many)
            if made.things > 12:
                self.assert_error(TooMany(12), block_family, family, lengths, tuple(widths))
                seen["things"] += 1
            elif len(made.lots) > 200:
                self.assert_error(TooMany(200), block_family, family, lengths, widths)
                seen["lots"] += 1
            else:
                found = block_family(family, tuple(lengths), Row(widths))
                self.assertIs(type(found), Family)
                self.assertEqual(found, made)
                self.assertEqual(sizes[1], (~made).least_size())
                if len(made.useful) <= 7:
                    self.assertLessEqual(fraction(strain(made)), fraction(strain(family)))
                seen["made"] += 1
        self.assertGreater(min(seen["lost"], seen["things"], seen["made"]), 20)

    def test_useless_things(self):
        family = Family(3, [(0, 2)])
        found = block_family(family, [1, 2, 1], [2, 2, 1])
        self.assertEqual((found.things, found.lots), (7, ((0, 6), (1, 6))))
        found = block_family(family, [1, 0, 1], [2, 2, 1])
        self.assertEqual((found.things, found.lots), (4, ((0, 3), (1, 3))))
        found = block_family(family, [1, 2, 1], [2, 0, 1])
        self.assertEqual((found.things, found.lots), (4, ((0, 3), (1, 3))))
        self.assertEqual(block_sizes(family, [1, 2, 1], [2, 2, 1]), (2, 1, 7))
        found = block_family(family, [0, 1, 1], [0, 1, 3])
        self.assertEqual((found.things, found.lots), (5, ((2,), (3,), (4,))))

    def test_lost_parts(self):
        family = votes(2, 3)
        for call in (block_family, block_sizes):
            self.assert_error(Lost(2, "held"), call, family, [0, 5, 0], [1, 1, 1])
            self.assert_error(Lost(2, "held"), call, family, [0, 0, 0], [0, 0, 0])
            self.assert_error(Lost(2, "left"), call, family, [1, 1, 1], [0, 9, 0])
            self.assert_error(Lost(1, "left"), call, family, [1, 3, 2], [0, 0, 2])
            self.assert_error(Lost(0, "held"), call, Family(2, [(0,)]), [0, 9], [9, 9])
        self.assertEqual(block_sizes(family, [0, 1, 1], [0, 1, 0]), (1, 1, 1))

    def test_worst_blocks(self):
        for family in all_families(3) + some_families(1203, 30, 6) + rich_families(1204, 50):
            found = worst_blocks(family)
            self.assertIs(type(found), tuple)
            self.assertEqual(found, (worst_lengths(family), worst_widths(family)))
            shortest, narrowest, many = block_sizes(family, *found)
            self.assertEqual(Fraction(shortest * narrowest, many), fraction(strain(family)))

    def test_limits(self):
        single = Family.single()
        self.assertEqual(block_family(single, [3], [4]), block(3, 4))
        self.assert_error(TooMany(12), block_family, single, [13], [1])
        self.assert_error(TooMany(12), block_family, Family(13, [(0,)]), [1] * 13, [1] * 13)
        self.assertEqual(block_family(Family(12, [(0,)]), [1] * 12, [1] * 12), Family(12, [(0,)]))
        self.assert_error(TooMany(12), block_family, Family(13, [(0,)]), [1] * 13, [1] + [0] * 12)
        self.assert_error(TooMany(12), block_family, votes(6, 12), [1] * 12, [2] + [1] * 11)
        self.assert_error(TooMany(200), block_family, votes(6, 12), [1] * 12, [1] * 12)
        self.assertEqual(block_family(votes(2, 12), [1] * 12, [1] * 12), votes(2, 12))
        triple = Family(6, [(0, 1, 2)])
        self.assertEqual(len(block_family(triple, [1, 1, 1, 0, 0, 0], [3, 3, 3, 1, 1, 1])), 27)
        self.assertEqual(len(block_family(Family(4, [(0, 1, 2, 3)]), [1] * 4, [3] * 4)), 81)
        self.assertEqual(len(block_family(votes(3, 6), [1] * 6, [2] * 6)), 160)
        self.assert_error(TooMany(200), block_family, votes(4, 6), [1] * 6, [2] * 6)

    def test_exactly_two_hundred_lots(self):
        family = self.family_with_many_lots(200)
        self.assertEqual(block_family(family, [1] * 12, [1] * 12), family)
        self.assert_error(TooMany(200), block_family, self.family_with_many_lots(201), [1] * 12, [1] * 12)
        # the lots are counted as they are put in: each lot with a thing of two counts twice
        made = Family(9, list(votes(3, 9).lots)[:77])
        self.assertEqual(len(block_family(made, [1] * 9, [2] + [1] * 8)), 77 + 28)

    def family_with_many_lots(self, many):
        """Return a family of twelve things with so many lots of three things."""
        return Family(12, list(votes(3, 12).lots)[:many])

    def test_great_numbers(self):
        big = 10 ** 40
        lengths, widths = [big] * 59, [big - 1] * 59
        self.assertEqual(block_sizes(ring(59), lengths, widths), (2 * big, 30 * (big - 1), 59 * big * (big - 1)))
        self.assert_error(TooMany(12), block_family, ring(59), lengths, widths)
        self.assert_error(TooMany(12), block_family, Family.single(), [big], [big])

    def test_errors(self):
        family = Family(3, [(0, 1)])
        for call in (block_family, block_sizes):
            self.assert_row_errors(3, lambda row, call=call: call(family, row, None), whole=True)
            self.assert_row_errors(3, lambda row, call=call: call(family, [0, 0, 0], row), whole=True)
        self.assert_error(TooMany(7), worst_blocks, ring(8))


class WholePackingsTest(Case):
    """Point 73."""

    def test_four_points(self):
        family, ones = four_points(), [1] * 6
        self.assertEqual((is_calm(family), whole(family, ones), narrow(family, ones)), (True, 1, (2, 1)))
        self.assertEqual((whole(~family, ones), narrow(~family, ones)), (3, (3, 1)))

    def test_not_calm_families(self):
        rng = random.Random(1211)
        for family in rich_families(1212, 40, 3, 5):
            if is_calm(family):
                continue
            widths = worst_widths(family)
            if widths.total()[0] <= 24:
                self.assertNotEqual((whole(family, widths), 1), narrow(family, widths))
            other = [rng.randint(0, 3) for _ in range(family.things)]
            self.assertLessEqual(whole(family, other), narrow(family, other)[0])


class OneThingTest(Case):
    """Points 74 and 75."""

    def test_least_factor(self):
        rng = random.Random(1221)
        for family in all_families(3) + rich_families(1222, 30, 3, 6):
            c = strain(family)
            less = amount_of(fraction(c) - Fraction(1, 100))
            for e in range(family.things):
                for _ in range(2):
                    l, w = random_row_of(rng, family.things), random_row_of(rng, family.things)
                    self.assertTrue(keeps_at(family, e, c, l, w))
                self.assertFalse(keeps_at(family, e, less, worst_lengths(family), worst_widths(family)))
                l, w = worst_entries(family, e, c, worst_lengths(family), worst_widths(family))
                self.assertTrue(keeps_at(family, e, c, worst_lengths(family).with_entry(e, l),
                                         worst_widths(family).with_entry(e, w)))

    def test_one_toll(self):
        for family in all_families(3) + rich_families(1223, 30, 3, 6):
            for e in family.useful:
                tolls = Row.ones(family.things)
                self.assertEqual(price(family, tolls.with_entry(e, 0)), (0, 1))
                values = []
                for t in ((1, 3), (1, 1), (3, 2), (4, 1)):
                    values.append(1 / fraction(price(family, tolls.with_entry(e, t))))
                self.assertEqual(values, sorted(values, reverse=True))
                strains = [strain_of_part(family, [], [e]), strain_of_part(family, [e], [])]
                strains = [fraction(value) for value in strains if value is not None]
                if strains:
                    far = far_toll(family, tolls, (e,))
                    for t in (far, amount_of(fraction(far) + 1)):
                        value = 1 / fraction(price(family, tolls.with_entry(e, t)))
                        self.assertEqual(value, max(strains))

    def test_one_thing_more(self):
        for family in all_families(3) + rich_families(1224, 40):
            c = fraction(strain(family))
            for e in family.useful:
                strains = [strain_of_part(family, [], [e]), strain_of_part(family, [e], [])]
                strains = [fraction(value) for value in strains if value is not None]
                if strains:
                    g = max(strains)
                    self.assertTrue(g <= c <= 4 * g * g / (4 * g - 1))
        for e in range(3):
            self.assertEqual(strain_of_part(votes(2, 3), [e], []), (1, 1))
            self.assertEqual(strain_of_part(votes(2, 3), [], [e]), (1, 1))
        self.assertEqual(strain(votes(2, 3)), (4, 3))


if __name__ == "__main__":
    unittest.main()
