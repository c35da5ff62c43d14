"""Point 78: settled pairs."""

import random
import unittest
from fractions import Fraction

from shortbynarrow.corners import corners_of
from shortbynarrow.errors import BadRow, NotCover, OtherSize, TooMany
from shortbynarrow.families import Family
from shortbynarrow.pricing import best_pairs
from shortbynarrow.rows import Row
from shortbynarrow.settling import contrary_of, is_settled, settled_pairs
from shortbynarrow.shapes import fan, ring, votes
from tests.brute import (
    all_families, fraction, fractions, positive_row_of, random_cover, rich_families, some_families, sum_of,
    tuples, useless_beside,
)
from tests.cases import Case


def pool(seed):
    """Return families of several kinds."""
    return all_families(2) + all_families(3) + some_families(seed, 30) + rich_families(seed + 1, 25, 3, 6)


def settled_by_definition(family, x, y, tolls):
    """Tell whether no corner in place of x or of y has a lesser sum."""
    value = sum_of(x, y, tolls)
    return (all(sum_of(other, y, tolls) >= value for other in corners_of(family))
            and all(sum_of(x, other, tolls) >= value for other in corners_of(~family)))


class SettledTest(Case):
    """Pairs that are settled."""

    def test_is_settled(self):
        rng = random.Random(1301)
        seen = {True: 0, False: 0}
        for family in pool(1302):
            tolls = positive_row_of(rng, family.things)
            ones = Row.ones(family.things)
            ours = corners_of(family) + [random_cover(rng, family)]
            theirs = corners_of(~family) + [random_cover(rng, ~family)]
            for _ in range(5):
                x, y = rng.choice(ours), rng.choice(theirs)
                found = is_settled(family, x, y, tolls=tolls)
                self.assertIs(found, settled_by_definition(family, x, y, tolls))
                seen[found] += 1
                self.assertIs(is_settled(family, x, y), settled_by_definition(family, x, y, ones))
                self.assertIs(is_settled(family, x, y, tolls=None), is_settled(family, x, y, tolls=ones))
            # a settled pair may have other entries at useless things only by a sum that is not the least
            for e in range(family.things):
                if e not in family.useful:
                    x, y = best_pairs(family, tolls)[0]
                    self.assertTrue(is_settled(family, x.with_entry(e, 5), y, tolls=tolls))
                    both = (x.with_entry(e, 5), y.with_entry(e, (1, 9)))
                    self.assertFalse(is_settled(family, *both, tolls=tolls))
        self.assertGreater(min(seen.values()), 50)

    def test_settled_pairs(self):
        rng = random.Random(1303)
        for family in pool(1304):
            tolls = rng.choice([positive_row_of(rng, family.things), Row.ones(family.things)])
            found = settled_pairs(family, tolls)
            self.assertIs(type(found), list)
            self.assertTrue(all(type(pair) is tuple and len(pair) == 2 for pair in found))
            self.assertTrue(all(type(row) is Row for pair in found for row in pair))
            table = [[sum_of(x, y, tolls) for y in corners_of(~family)] for x in corners_of(family)]
            columns = [min(column) for column in zip(*table)]
            expected = [(x, y) for x, sums in zip(corners_of(family), table)
                        for y, value, least in zip(corners_of(~family), sums, columns)
                        if value == min(sums) == least]
            self.assertEqual(found, expected)
            self.assertTrue(all(pair in found for pair in best_pairs(family, tolls)))
            for x, y in found[:5]:
                self.assertTrue(is_settled(family, x, y, tolls=tolls))

    def test_settled_but_not_best(self):
        for family in rich_families(1305, 30, 3, 6):
            found = settled_pairs(family, [1] * family.things)
            for a in family:
                for b in ~family:
                    pair = (Row.of_set(b, family.things), Row.of_set(a, family.things))
                    self.assertIs(is_settled(family, *pair), len(set(a) & set(b)) == 1)
                    self.assertIs(pair in found, len(set(a) & set(b)) == 1)
        self.assertEqual(len(settled_pairs(ring(3), [1, 1, 1])), 7)
        self.assertEqual(len(best_pairs(ring(3), [1, 1, 1])), 1)

    def test_any_size(self):
        half = Row([1] * 59, 2)
        self.assertIs(is_settled(votes(2, 15), Row([1] * 15, 2), Row([1] * 15, 14)), True)
        self.assertIs(is_settled(votes(2, 15), Row([1] * 15, 2), [1] * 15), False)
        big = Family(60, [(0, 1), (1, 2), (0, 2), (58, 59)])
        x = Row([0] * 58 + [1, 1])
        self.assert_error(NotCover((0, 1)), is_settled, big, x, x)
        row = Row([1, 1, 1] + [0] * 55 + [1, 1], 2)
        self.assertIs(is_settled(big, row, row), False)
        one = Row([1, 1, 1] + [0] * 55 + [0, 2], 2)
        other = Row([1, 1, 1] + [0] * 57, 2)
        self.assertIs(is_settled(big, one, other), True)
        tolls = Row([10 ** 40 - e for e in range(60)], 10 ** 40)
        self.assertIs(is_settled(big, one, other, tolls=tolls), True)
        self.assertEqual(half.total(), (59, 2))

    def test_useless_things(self):
        places = [3, 10, 20, 29, 30, 51, 59]
        family = useless_beside(fan(7), places, 60)
        tolls = Row([10 ** 39 + 11 * e for e in range(60)], 10 ** 38)
        small = Row.of_amounts([tolls[e] for e in places])
        found, expected = settled_pairs(family, tolls), settled_pairs(fan(7), small)
        self.assertEqual([[x[e] for e in places] for x, _ in found], [list(x) for x, _ in expected])
        self.assertEqual([[y[e] for e in places] for _, y in found], [list(y) for _, y in expected])

    def test_errors(self):
        family = Family(3, [(0, 1), (2,)])
        self.assert_row_errors(3, lambda row: is_settled(family, row, None, tolls=0))
        self.assert_row_errors(3, lambda row: is_settled(family, [0, 0, 0], row, tolls=0))
        self.assert_positive_row_errors(3, lambda row: is_settled(family, [0, 0, 0], [0, 0, 0], tolls=row), True)
        self.assert_error(NotCover((0, 1)), is_settled, family, [0, 0, 0], [0, 0, 0])
        self.assert_error(NotCover((2,)), is_settled, family, [0, 1, 0], [0, 0, 0])
        self.assert_error(NotCover((0, 2)), is_settled, family, [0, 1, 1], [0, 0, 0])
        self.assert_error(NotCover((1, 2)), is_settled, family, [0, 1, 1], [1, 0, 0])
        self.assert_positive_row_errors(3, lambda row: settled_pairs(family, row))
        self.assert_error(TooMany(7), settled_pairs, ring(8), [1] * 8)
        self.assert_error(BadRow(0), settled_pairs, ring(8), [0] * 7)
        self.assert_error(OtherSize(7), settled_pairs, ring(8), [1] * 7)


class ContraryTest(Case):
    """Rows of 1 over the entries."""

    def test_contrary_of(self):
        rng = random.Random(1311)
        for _ in range(60):
            row = positive_row_of(rng, rng.randint(1, 7), 9, 7)
            found = contrary_of(row)
            self.assertIs(type(found), Row)
            self.assertEqual(tuples(found), tuple(1 / value for value in fractions(row)))
            self.assertEqual(contrary_of(found), row)
        self.assertEqual(contrary_of((2, 3)), Row([3, 2], 6))
        self.assertEqual(contrary_of([10 ** 40] * 70), Row([1] * 70, 10 ** 40))
        self.assertEqual(fraction(contrary_of([7])[0]), Fraction(1, 7))

    def test_errors(self):
        for wrong in [None, 5, "12", [], (), {0: 1}]:
            self.assert_error(BadRow(-1), contrary_of, wrong)
        self.assert_error(BadRow(2), contrary_of, [0, 1, -1])
        self.assert_error(BadRow(1), contrary_of, [3, True])
        self.assert_error(BadRow(1), contrary_of, [3, 0, 0])
        self.assert_error(BadRow(0), contrary_of, Row([0, 1], 2))


if __name__ == "__main__":
    unittest.main()
