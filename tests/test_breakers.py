"""Points 38, 39 and 44: corners that break a row."""

import random
import unittest

from shortbynarrow.breakers import breakers, breaking
from shortbynarrow.corners import broken_corners, corners_of, whole_corners
from shortbynarrow.errors import BadRow, OtherSize, TooMany
from shortbynarrow.families import Family
from shortbynarrow.mixes import mix_under, stretch
from shortbynarrow.packings import cap
from shortbynarrow.rows import Row
from shortbynarrow.shapes import fan, four_points, ring, seven_lines, votes
from tests.brute import (
    all_families, corners_by_definition, fraction, fractions, random_cover, random_row_of, rich_families,
    some_families, sum_of, tuples, useless_beside,
)
from tests.cases import Case


class BreakersTest(Case):
    """Point 38."""

    def test_example(self):
        half = Row((1, 1, 1), 2)
        self.assertEqual(
            [mix_under(ring(3), half), stretch(ring(3), half), list(breaking(ring(3), half))],
            [None, (4, 3), [(1, 2), (1, 2), (1, 2)]])

    def test_against_the_definition(self):
        rng = random.Random(301)
        for family in some_families(302, 40, most_things=4, most_lots=5):
            row = random_row_of(rng, family.things, 2, 3)
            expected = [x for x in corners_by_definition(family)
                        if sum(a * b for a, b in zip(x, fractions(row))) < 1]
            found = breakers(family, row)
            self.assertIs(type(found), list)
            self.assertEqual([tuples(x) for x in found], expected)
            first = breaking(family, row)
            self.assertEqual(None if first is None else tuples(first), expected[0] if expected else None)

    def test_a_mix_or_a_breaking_corner(self):
        rng = random.Random(303)
        seen = {"mix": 0, "corner": 0, "edge": 0}
        for family in some_families(304, 200, most_things=6):
            for row in (random_row_of(rng, family.things, 3, 3), random_cover(rng, family)):
                mix, corner = mix_under(family, row), breaking(family, row)
                self.assertIs(mix is None, corner is not None)
                self.assertIs(fraction(cap(family, row)) >= 1, corner is None)
                self.assertEqual(breakers(family, row)[:1], [] if corner is None else [corner])
                seen["mix" if corner is None else "corner"] += 1
                if stretch(family, row) is not None:
                    # at its stretch a row is just at least the row of some mix
                    fitting = row.scaled(stretch(family, row))
                    self.assertIsNone(breaking(family, fitting))
                    self.assertIsNotNone(breaking(family, fitting.scaled((99, 100))))
                    seen["edge"] += 1
                else:
                    self.assertEqual(min(sum_of(row, x) for x in corners_of(family)), 0)
        self.assertGreater(min(seen.values()), 50)

    def test_edges(self):
        single = Family.single()
        self.assertEqual(breakers(single, [0]), [Row([1])])
        self.assertEqual(breakers(single, [1]), [])
        self.assertIsNone(breaking(single, [1]))
        self.assertEqual(breaking(single, Row([9], 10)), Row([1]))
        self.assertEqual(breakers(votes(2, 2), [0, 0]), [Row([0, 1]), Row([1, 0])])
        self.assertEqual(breakers(ring(3), [0, 0, 0]), corners_of(ring(3)))
        # a row that is no cover of the family may still be at least the row of a mix
        self.assertIsNone(breaking(votes(3, 3), [1, 1, 1]))
        self.assertIsNone(breaking(Family(3, [(0,), (1, 2)]), [1, 0, 0]))

    def test_new_lists(self):
        found = breakers(ring(3), [0, 0, 0])
        found.clear()
        self.assertEqual(len(breakers(ring(3), [0, 0, 0])), 4)


class BothSidesTest(Case):
    """Point 39."""

    def check(self, family):
        """Check which corners of the blocker break those of the family."""
        other = ~family
        broken_there = broken_corners(other)
        for corner in whole_corners(family):
            self.assertEqual(breakers(other, corner), [])
            self.assertIsNone(breaking(other, corner))
        for corner in broken_corners(family):
            found = breakers(other, corner)
            self.assertTrue(found)
            self.assertTrue(all(row in broken_there for row in found))
            self.assertEqual(breaking(other, corner), found[0])
        self.assertIs(bool(broken_there), bool(broken_corners(family)))
        return bool(broken_there)

    def test_all_small(self):
        for things in (1, 2, 3):
            for family in all_families(things):
                self.check(family)

    def test_random(self):
        seen = [self.check(family) for family in rich_families(305, 100)]
        self.assertGreater(seen.count(True), 20)
        self.assertGreater(seen.count(False), 20)

    def test_shapes(self):
        for family in (ring(3), ring(5), ring(7), fan(4), fan(6), seven_lines(), votes(3, 6)):
            self.assertTrue(self.check(family))
        for family in (ring(4), ring(6), four_points(), votes(1, 5), votes(5, 5)):
            self.assertFalse(self.check(family))


class SizesTest(Case):
    """Point 44 and the errors."""

    def test_errors(self):
        for call in (breaking, breakers):
            self.assert_row_errors(3, lambda row, call=call: call(Family(3, [(0, 1)]), row))
            self.assert_error(TooMany(7), call, ring(8), [1] * 8)
            self.assert_error(OtherSize(7), call, ring(8), [1] * 7)
            self.assert_error(BadRow(0), call, ring(8), [-1])

    def test_useless_things(self):
        family = useless_beside(ring(7), [3, 9, 14, 20, 33, 41, 59], 60)
        row = Row([2 * 10 ** 39] * 60, 7 * 10 ** 39 + 1)
        found = breakers(family, row)
        self.assertEqual(found, broken_corners(family))
        self.assertEqual(breaking(family, row), found[0])
        self.assertEqual(len(found), 1)


if __name__ == "__main__":
    unittest.main()
