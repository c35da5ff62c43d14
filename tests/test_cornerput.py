"""Points 42, 43 and 44: corners of put-in families."""

import random
import unittest

from shortbynarrow.cornerput import put_corners, put_row, shares
from shortbynarrow.corners import corners_of
from shortbynarrow.covers import is_corner, is_cover
from shortbynarrow.errors import BadFamily, BadRow, OtherSize, TooMany
from shortbynarrow.families import Family
from shortbynarrow.lengths import short
from shortbynarrow.putting import beside, both
from shortbynarrow.rows import Row
from shortbynarrow.shapes import fan, ring, votes
from tests.brute import (
    NOT_LISTS, all_families, corners_by_definition, fraction, random_cover, random_family, random_row_of,
    tuples,
)
from tests.cases import Case

S = Family.single()


def random_put(rng, most):
    """Return a family and families to put in with at most so many things altogether."""
    while True:
        family = random_family(rng, rng.randint(1, 3), 4)
        families = [random_family(rng, rng.randint(1, 3), 3) for _ in range(family.things)]
        if sum(inner.things for inner in families) <= most:
            return family, families


def cut(families, row):
    """Return the shares of the families in a row."""
    found, start = [], 0
    for inner in families:
        found.append(Row.of_amounts([row[start + f] for f in range(inner.things)]))
        start += inner.things
    return found


class PutCornersTest(Case):
    """Point 42."""

    def test_example(self):
        rows = put_corners(votes(2, 2), [ring(3), Family.single()])
        self.assertEqual([len(rows), list(rows[0]), list(rows[2])],
                         [5, [(0, 1), (0, 1), (0, 1), (1, 1)], [(1, 2), (1, 2), (1, 2), (0, 1)]])

    def check(self, family, families):
        """Check the corners of the family that is made, their order and their number."""
        found = put_corners(family, families)
        self.assertIs(type(found), list)
        self.assertTrue(all(type(row) is Row for row in found))
        keys = [tuples(row) for row in found]
        self.assertEqual(keys, sorted(set(keys)))
        many = 0
        for x in corners_of(family):
            product = 1
            for e in x.support():
                product *= len(corners_of(families[e]))
            many += product
        self.assertEqual(len(found), many)
        return found

    def test_against_the_family_that_is_made(self):
        rng = random.Random(321)
        for _ in range(60):
            family, families = random_put(rng, 7)
            self.assertEqual(self.check(family, families), corners_of(family(families)))
            self.assertEqual(put_corners(family, tuple(families)), put_corners(family, families))

    def test_against_the_definition(self):
        rng = random.Random(322)
        for _ in range(12):
            family, families = random_put(rng, 4)
            found = [tuples(row) for row in put_corners(family, families)]
            self.assertEqual(found, corners_by_definition(family(families)))

    def test_twelve_things(self):
        families = [ring(3), ring(3), ring(3), ring(3)]
        made = votes(2, 4)(families)
        found = self.check(votes(2, 4), families)
        self.assertTrue(all(is_corner(made, row) for row in found))
        self.assertEqual(max(row.bottom for row in found), 4)
        found = self.check(votes(1, 2), [fan(6), votes(3, 6)])
        self.assertEqual(len(found), len(corners_of(fan(6))) * len(corners_of(votes(3, 6))))
        self.check(votes(4, 7), [votes(2, 2)] * 5 + [S, S])

    def test_useless_things(self):
        outer = Family(3, [(0, 1)])
        found = self.check(outer, [ring(3), S, ring(4)])
        self.assertEqual(len(found), 5)
        self.assertTrue(all(row.at([4, 5, 6, 7]) == (0, 1) for row in found))

    def test_sizes(self):
        six, seven = Family(6, [(0, 1)]), Family(7, [(0, 1)])
        self.assertEqual(len(put_corners(votes(1, 2), [six, six])), 4)
        self.assert_error(TooMany(12), put_corners, votes(1, 2), [six, seven])
        self.assert_error(TooMany(12), put_corners, votes(1, 2), [six, ring(8)])
        self.assert_error(TooMany(7), put_corners, votes(1, 2), [ring(8), S])
        self.assert_error(TooMany(7), put_corners, Family(2, [(0,)]), [S, ring(8)])
        self.assert_error(TooMany(7), put_corners, ring(8), [S] * 8)
        self.assert_error(TooMany(12), put_corners, ring(13), [S] * 13)
        self.assertEqual(len(put_corners(Family(12, ring(7).lots), [S] * 12)), len(corners_of(ring(7))))
        # no bound of 60 things stands in the way
        self.assert_error(TooMany(12), put_corners, votes(1, 2), [ring(50), ring(50)])

    def test_errors(self):
        self.assert_families_errors(3, lambda families: put_corners(ring(3), families))
        self.assert_families_errors(8, lambda families: put_corners(ring(8), families))
        self.assert_error(BadFamily(1), put_corners, ring(3), [ring(8), None])


class PutRowTest(Case):
    """Rows made of rows."""

    def test_against_the_definition(self):
        rng = random.Random(323)
        for _ in range(100):
            family, families = random_put(rng, 9)
            row = random_row_of(rng, family.things)
            rows = [random_row_of(rng, inner.things) for inner in families]
            found = put_row(family, families, row, rows)
            self.assertIs(type(found), Row)
            expected = [fraction(row[e]) * fraction(v) for e, inner in enumerate(rows) for v in inner]
            self.assertEqual(tuples(found), tuple(expected))
            self.assertEqual(cut(families, found), [v.scaled(row[e]) for e, v in enumerate(rows)])

    def test_lists(self):
        self.assertEqual(put_row(votes(1, 2), (ring(3), S), [2, 3], ([1, 0, 4], Row([1], 2))),
                         Row([4, 0, 16, 3], 2))
        self.assertEqual(put_row(S, [S], (5,), [(7,)]), Row([35]))
        big = 10 ** 40
        self.assertEqual(put_row(S, [S], Row([1], big - 1), [[big]]), Row([big], big - 1))

    def test_more_than_sixty_things(self):
        families = [votes(1, 50), votes(1, 50)]
        found = put_row(votes(1, 2), families, [1, 2], [[1] * 50, [1] * 50])
        self.assertEqual(found, Row([1] * 50 + [2] * 50))
        self.assertEqual(shares(votes(1, 2), families, found), ((1, 1), (2, 1)))

    def test_errors(self):
        two = votes(1, 2)
        families = [ring(3), S]
        self.assert_families_errors(2, lambda wrong: put_row(two, wrong, None, None))
        self.assert_row_errors(2, lambda row: put_row(two, families, row, None))
        for wrong in NOT_LISTS + [Row([1, 1])]:
            self.assert_error(BadRow(-1), put_row, two, families, [1, 1], wrong)
        for many in (0, 1, 3):
            self.assert_error(OtherSize(many), put_row, two, families, [1, 1], [None] * many)
        for wrong in NOT_LISTS + [[], [-1, 1, 1], [1, True, 1], [1, (1, 2), 1]]:
            self.assert_error(BadRow(0), put_row, two, families, [1, 1], [wrong, None])
            self.assert_error(BadRow(1), put_row, two, families, [1, 1], ([1, 1, 1], wrong))
        self.assert_error(OtherSize(2), put_row, two, families, [1, 1], [[1, 1], None])
        self.assert_error(OtherSize(4), put_row, two, families, [1, 1], [Row([1] * 4), None])
        self.assert_error(OtherSize(2), put_row, two, families, [1, 1], [[1, 1, 1], [1, 1]])
        # a row is checked where the outer row is 0, too
        self.assert_error(OtherSize(2), put_row, two, families, [0, 0], [[1, 1, 1], [1, 1]])


class SharesTest(Case):
    """The least lengths at the shares."""

    def test_against_the_definition(self):
        rng = random.Random(324)
        for _ in range(100):
            family, families = random_put(rng, 9)
            made = family(families)
            for row in (random_row_of(rng, made.things, 3, 3), random_cover(rng, made)):
                found = shares(family, families, row)
                self.assertIs(type(found), tuple)
                parts = cut(families, row)
                self.assert_same(found, tuple(short(one, part) for one, part in zip(families, parts)))
                self.assertIs(is_cover(made, row), is_cover(family, Row.of_amounts(found)))

    def test_edges(self):
        families = [Family(2, [(0,)]), S]
        self.assertEqual(shares(votes(1, 2), families, [3, 9, 4]), ((3, 1), (4, 1)))
        self.assertEqual(shares(votes(1, 2), families, Row([2, 0, 3], 4)), ((1, 2), (3, 4)))
        self.assertEqual(shares(Family(2, [(0,)]), tuple(families), (0, 9, 4)), ((0, 1), (4, 1)))
        great = shares(votes(2, 2), [ring(30), ring(29)], [10 ** 40] * 59)
        self.assertEqual(great, ((2 * 10 ** 40, 1), (2 * 10 ** 40, 1)))

    def test_errors(self):
        self.assert_families_errors(2, lambda wrong: shares(votes(1, 2), wrong, None))
        self.assert_row_errors(4, lambda row: shares(votes(1, 2), [ring(3), S], row))


class JoinedTest(Case):
    """Point 43."""

    def test_beside_and_both(self):
        rng = random.Random(325)
        pool = all_families(2) + [random_family(rng, 3, 4) for _ in range(8)]
        for _ in range(40):
            one, two = rng.choice(pool), rng.choice(pool)
            first, second = corners_of(one), corners_of(two)
            sides = put_corners(votes(1, 2), [one, two])
            self.assertEqual(sides, corners_of(beside(one, two)))
            self.assertEqual([list(row) for row in sides], [[*x, *y] for x in first for y in second])
            joined = put_corners(votes(2, 2), [one, two])
            self.assertEqual(joined, corners_of(both(one, two)))
            expected = {tuples(x) + (0,) * two.things for x in first}
            expected |= {(0,) * one.things + tuples(y) for y in second}
            self.assertEqual({tuples(row) for row in joined}, expected)


if __name__ == "__main__":
    unittest.main()
