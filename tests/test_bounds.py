"""Points 64 to 66 and 70: bounds of the strain."""

import unittest
from fractions import Fraction

from shortbynarrow.bounds import (
    broken_family, holding_bound, is_votes, least_broken, meeting_bound, size_bound, strain_bottom, strain_top,
)
from shortbynarrow.errors import BadNumber
from shortbynarrow.families import Family
from shortbynarrow.shapes import block, fan, four_points, ring, seven_lines, votes
from shortbynarrow.strains import strain
from tests.brute import (
    NOT_NUMBERS, all_families, amount_of, fraction, rich_families, some_families, subsets, useless_beside,
)
from tests.cases import Case

LEAST = {3: (4, 3), 4: (9, 7), 5: (6, 5), 6: (25, 21), 7: (8, 7)}


def pool(seed):
    """Return families of several kinds."""
    made = [votes(k, n) for n in range(1, 8) for k in range(1, n + 1)]
    made += [useless_beside(family, list(range(1, family.things + 1)), family.things + 2) for family in made]
    return made + all_families(3) + some_families(seed, 60, 6) + rich_families(seed + 1, 60)


def votes_on_useful(family):
    """Return k if the lots are all sets of k useful things, else None."""
    for k in range(1, len(family.useful) + 1):
        if sorted(family.lots) == sorted(s for s in subsets(family.useful) if len(s) == k):
            return k
    return None


class NumbersTest(Case):
    """The bounds that are told by a number."""

    def test_strain_top(self):
        for n in range(1, 70):
            value = Fraction((n + 1) * (n + 1) // 4, n)
            self.assert_same(strain_top(n), amount_of(value))
            self.assert_same(strain_bottom(n), amount_of(Fraction(n + 1, n)))
        self.assertEqual([strain_top(n) for n in (1, 2, 3, 4, 7)], [(1, 1), (1, 1), (4, 3), (3, 2), (16, 7)])
        big = 10 ** 39 + 1
        self.assert_same(strain_bottom(big), (big + 1, big))
        for call in (strain_top, strain_bottom):
            for wrong in NOT_NUMBERS + [0, -1]:
                self.assert_error(BadNumber("n"), call, wrong)

    def test_least_broken(self):
        for n, value in LEAST.items():
            self.assert_same(least_broken(n), value)
        for call in (least_broken, broken_family):
            for wrong in NOT_NUMBERS + [2, 8, 0, -3]:
                self.assert_error(BadNumber("n"), call, wrong)

    def test_broken_family(self):
        expected = {3: fan(3), 4: fan(4), 5: ring(5), 6: fan(6), 7: ring(7)}
        for n, family in expected.items():
            found = broken_family(n)
            self.assertIs(type(found), Family)
            self.assertEqual(found, family)
            self.assertEqual(len(found.useful), n)
            self.assert_same(strain(found), least_broken(n))


class BoundsTest(Case):
    """The bounds of a family."""

    def test_top_and_bottom(self):
        reached = 0
        for family in pool(1101):
            c, u = fraction(strain(family)), len(family.useful)
            top = fraction(strain_top(u))
            self.assertLessEqual(c, top)
            self.assertTrue(c == 1 or c >= fraction(strain_bottom(u)))
            if u <= 2:
                self.assertEqual(c, 1)
                continue
            self.assertTrue(c == 1 or c >= fraction(least_broken(u)))
            middles = ((u + 1) // 2,) if u % 2 else (u // 2, u // 2 + 1)
            self.assertIs(c == top, votes_on_useful(family) in middles)
            reached += c == top
        self.assertGreater(reached, 10)

    def test_all_families_of_four_things(self):
        for family in all_families(4):
            c, u = fraction(strain(family)), len(family.useful)
            self.assertTrue(c == 1 or fraction(least_broken(u)) <= c <= fraction(strain_top(u)))
            self.assertLessEqual(c, fraction(size_bound(family)))

    def test_is_votes(self):
        for n in range(1, 8):
            for k in range(1, n + 1):
                self.assert_same(is_votes(votes(k, n)), k)
                self.assertIsNone(is_votes(Family(n + 1, votes(k, n).lots)))
        for family in all_families(3) + some_families(1102, 60):
            expected = votes_on_useful(family) if len(family.useful) == family.things else None
            self.assert_same(is_votes(family), expected)
        self.assertIsNone(is_votes(ring(4)))
        self.assert_same(is_votes(ring(3)), 2)
        self.assertIsNone(is_votes(fan(4)))
        # as many lots as there are sets of one thing, or of three things
        self.assertIsNone(is_votes(Family(4, [(0,), (1, 2), (1, 3), (2, 3)])))
        self.assertIsNone(is_votes(Family(4, [(0, 1, 2), (0, 3), (1, 3), (2, 3)])))
        self.assertIsNone(is_votes(Family(4, [(0, 1), (0, 2), (0, 3), (1, 2), (1, 3)])))
        self.assert_same(is_votes(votes(59, 60)), 59)
        self.assert_same(is_votes(votes(60, 60)), 60)

    def test_size_bound(self):
        for family in pool(1103):
            u, k = len(family.useful), max(len(lot) for lot in family)
            expected = Fraction(k * (u + 1 - k), u) if 2 * k <= u + 1 else fraction(strain_top(u))
            self.assert_same(size_bound(family), amount_of(expected))
            c = fraction(strain(family))
            self.assertLessEqual(c, expected)
            self.assertLessEqual(c, fraction(size_bound(~family)))
            if k >= 2 and 2 * k <= u + 1:
                self.assertIs(c == expected, votes_on_useful(family) == k)
        self.assert_same(size_bound(Family(9, [(0,), (3,)])), (1, 1))
        self.assert_same(size_bound(votes(2, 4)), (3, 2))
        self.assert_same(size_bound(votes(3, 4)), (3, 2))
        self.assert_same(size_bound(ring(60)), (59, 30))

    def test_meeting_and_holding(self):
        for family in pool(1104):
            meet = max(len(set(a) & set(b)) for a in family for b in ~family)
            hold = max(sum(e in lot for lot in family) for e in range(family.things))
            self.assert_same(meeting_bound(family), meet)
            self.assert_same(holding_bound(family), hold)
            c = fraction(strain(family))
            self.assertLessEqual(c, min(meet, hold, holding_bound(~family)))
        known = [(four_points(), 3, 2), (seven_lines(), 3, 3), (block(2, 3), 1, 3), (Family.single(), 1, 1),
                 (fan(4), 3, 3)]
        for family, meet, hold in known:
            self.assertEqual((meeting_bound(family), holding_bound(family)), (meet, hold))

    def test_any_size(self):
        self.assertEqual(holding_bound(ring(60)), 2)
        self.assertEqual(meeting_bound(Family(60, [tuple(range(30)), tuple(range(30, 60))])), 1)
        self.assertEqual(meeting_bound(votes(2, 12)), 2)
        self.assert_same(size_bound(votes(1, 60)), (1, 1))


if __name__ == "__main__":
    unittest.main()
