"""Points 46, 59 and 60: pairs of a family, and of some family."""

import random
import unittest

from shortbynarrow.covers import is_cover
from shortbynarrow.errors import BadRow, OtherSize, TooMany
from shortbynarrow.families import Family
from shortbynarrow.pairs import failing_set, is_pair, some_family
from shortbynarrow.pricing import best_pairs
from shortbynarrow.rows import Row
from shortbynarrow.shapes import ring, votes
from tests.brute import (
    all_families, fractions, least_sets, random_cover, random_row_of, some_families, subsets,
)
from tests.cases import Case


def fails(x, y, inside):
    """Tell whether a set fails for two tuples of Fractions."""
    return (sum(x[e] for e in inside) < 1
            and sum(y[e] for e in range(len(y)) if e not in inside) < 1)


class IsPairTest(Case):
    """Point 46."""

    def test_against_the_definition(self):
        rng = random.Random(801)
        seen = {True: 0, False: 0}
        for family in some_families(802, 200, 6):
            rows = [random_row_of(rng, family.things, 3, 3), random_cover(rng, family)]
            others = [random_row_of(rng, family.things, 3, 3), random_cover(rng, ~family)]
            for x in rows:
                for y in others:
                    found = is_pair(family, x, y)
                    self.assertIs(found, is_cover(family, x) and is_cover(~family, y))
                    seen[found] += 1
            for x, y in best_pairs(family, [1] * family.things):
                self.assertIs(is_pair(family, x, y), True)
                self.assertIs(is_pair(family, x, y.scaled((99, 100))), False)
                self.assertIs(is_pair(family, x.scaled((99, 100)), y), False)
        self.assertGreater(min(seen.values()), 100)

    def test_any_size(self):
        half = Row([1] * 59, 2)
        self.assertIs(is_pair(ring(59), half, Row([1] * 59, 30)), True)
        self.assertIs(is_pair(ring(59), half, Row([10 ** 40] * 59, 30 * 10 ** 40 + 1)), False)
        self.assertIs(is_pair(ring(59), Row([10 ** 39] * 59, 2 * 10 ** 39 + 1), [1] * 59), False)
        rng = random.Random(803)
        great = Family(60, [rng.sample(range(60), rng.randint(2, 9)) for _ in range(200)])
        self.assertIs(is_pair(great, [1] * 60, [1] * 60), True)
        self.assertIs(is_pair(great, [1] * 60, [0] * 60), False)

    def test_errors(self):
        family = Family(3, [(0, 1)])
        self.assert_row_errors(3, lambda row: is_pair(family, row, None))
        self.assert_row_errors(3, lambda row: is_pair(family, [0, 0, 0], row))


class SomeFamilyTest(Case):
    """Point 59."""

    def test_example(self):
        half = Row((1, 1, 1), 2)
        self.assertEqual(
            [some_family(half, half).lots, failing_set(half, half), failing_set(Row((1, 1, 1), 3), half)],
            [((0, 1), (0, 2), (1, 2)), None, (0, 1)])

    def test_against_the_definition(self):
        rng = random.Random(811)
        seen = {True: 0, False: 0}
        for _ in range(150):
            size = rng.randint(1, 5)
            x, y = random_row_of(rng, size, 3, 3), random_row_of(rng, size, 3, 3)
            if rng.random() < 0.5:
                x, y = x + Row([1] * size, 2), y + Row([1] * size, 2)
            one, other = fractions(x), fractions(y)
            failing = [s for s in subsets(range(size)) if fails(one, other, s)]
            self.assert_same(failing_set(x, y), failing[0] if failing else None)
            found = some_family(x, y)
            seen[found is None] += 1
            if failing:
                self.assertIsNone(found)
                continue
            self.assertIs(type(found), Family)
            full = [s for s in subsets(range(size)) if sum(one[e] for e in s) >= 1]
            self.assertEqual((found.things, found.lots), (size, least_sets(full)))
            self.assertIs(is_pair(found, x, y), True)
        self.assertGreater(min(seen.values()), 30)

    def test_pairs_of_all_families(self):
        rng = random.Random(812)
        families = all_families(3)
        for _ in range(80):
            x, y = random_row_of(rng, 3, 3, 3), random_row_of(rng, 3, 3, 3)
            other = fractions(y)
            some = [family for family in families if is_pair(family, x, y)]
            self.assertIs(bool(some), failing_set(x, y) is None)
            for family in families:
                narrow_sets = [s for s in subsets(range(3))
                               if sum(other[e] for e in range(3) if e not in s) < 1]
                expected = is_cover(family, x) and all(family.holds(s) for s in narrow_sets)
                self.assertIs(is_pair(family, x, y), expected)
            if some:
                self.assertIn(some_family(x, y), some)

    def test_order(self):
        self.assertEqual(failing_set([0, 0], [0, 0]), ())
        self.assertEqual(failing_set([0, 0, 0], [1, 0, 0]), (0,))
        self.assertEqual(failing_set([0, 0, 0], [1, 1, 0]), (0, 1))
        self.assertEqual(failing_set([0, 0, 0], [0, 0, 1]), (2,))
        self.assertEqual(failing_set([0, 1, 0], [1, 0, 0]), (0,))
        self.assertEqual(failing_set([0, 0, 0], Row([1, 1, 1], 2)), (0, 1))
        self.assertEqual(failing_set([0, 0, 1, 0], Row([1, 1, 1, 1], 2)), (0, 1, 3))
        self.assertEqual(failing_set(Row([9, 9, 9, 1], 10), Row([1, 0, 0, 9], 10)), (0,))
        self.assertEqual(failing_set(Row([9, 9, 9, 1], 10), Row([1, 0, 0, 8], 10)), ())
        self.assertEqual(failing_set([0, 0, 0], [1, 1, 1]), (0, 1, 2))
        self.assertIsNone(failing_set([1], [1]))
        self.assertEqual(failing_set([1], [0]), ())
        self.assertEqual(failing_set([0], [1]), (0,))

    def test_twelve(self):
        half = Row([1] * 12, 6)
        found = some_family(half, Row([1] * 12, 7))
        self.assertEqual(found, votes(6, 12))
        self.assertEqual(failing_set(half, Row([1] * 12, 8)), (0, 1, 2, 3, 4))
        big = 10 ** 40
        self.assertIsNone(failing_set(Row([big] * 12, 6 * big), Row([big] * 12, 7 * big)))
        self.assertEqual(failing_set(Row([big] * 12, 6 * big + 1), Row([big] * 12, 7 * big)), tuple(range(6)))

    def test_errors(self):
        for call in (some_family, failing_set):
            for wrong in [None, [], (), 5, "12"]:
                self.assert_error(BadRow(-1), call, wrong, None)
            self.assert_error(BadRow(1), call, [1, -1], None)
            self.assert_row_errors(3, lambda row, call=call: call([1, 1, 1], row))
            self.assert_error(TooMany(12), call, [1] * 13, Row([1] * 13, 2))
            self.assert_error(OtherSize(12), call, [1] * 13, [1] * 12)
            self.assert_error(BadRow(0), call, [1] * 13, [None])


if __name__ == "__main__":
    unittest.main()
