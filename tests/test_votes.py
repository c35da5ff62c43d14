"""Points 111 to 113: votes in closed form; of 113 the contacts."""

import random
import unittest
from fractions import Fraction
from itertools import permutations

from shortbynarrow.corners import corners_of
from shortbynarrow.errors import BadNumber, BadRow, TooMany
from shortbynarrow.lengths import narrow, short
from shortbynarrow.packings import cap
from shortbynarrow.pricing import price
from shortbynarrow.rows import Row
from shortbynarrow.shapes import votes
from shortbynarrow.strains import strain
from shortbynarrow.votes import (
    vote_cap, vote_contacts, vote_corners, vote_price, vote_product, vote_rises, vote_short, vote_strain,
)
from tests.brute import NOT_LISTS, NOT_NUMBERS, amount_of, contacts_by_loads, fraction, random_row_of
from tests.cases import Case

WITH_ROWS = (vote_short, vote_cap, vote_price, vote_contacts)
WITH_NUMBERS = (vote_strain, vote_rises, vote_corners, lambda k, n: vote_product(k, n, 1))


def pairs(most, least=1):
    """Return all k and n with 1 <= k <= n, n from `least` to `most`."""
    return [(k, n) for n in range(least, most + 1) for k in range(1, n + 1)]


class SmallVotesTest(Case):
    """All values against the family that is made."""

    def test_example(self):
        self.assertEqual(
            [vote_short(2, [4, 1, 2]), vote_cap(2, [1, 1, 1, 1]), vote_price(2, [1, 1, 2, 5]),
             vote_contacts(2, [5, 3, 1])], [(3, 1), (2, 1), (1, 1), (10, 1)])
        self.assertEqual([vote_strain(2, 4), vote_rises(2, 4), vote_product(2, 4, 3)], [(3, 2), (1, 1, 2, 2), 4])

    def rows(self, rng, n):
        """Return rows of n entries of many kinds."""
        return [Row.ones(n), Row([0] * n), random_row_of(rng, n), random_row_of(rng, n, 20, 6),
                Row([rng.randint(1, 9) for _ in range(n)], 7), Row(list(range(n))), Row([3 ** e for e in range(n)])]

    def test_short_and_cap(self):
        rng = random.Random(2301)
        for k, n in pairs(6):
            family = votes(k, n)
            for row in self.rows(rng, n):
                self.assert_same(vote_short(k, row), short(family, row))
                self.assert_same(vote_cap(k, row), cap(family, row))
                self.assert_same(vote_short(n + 1 - k, row), narrow(family, row))

    def test_price_and_strain(self):
        rng = random.Random(2302)
        for k, n in pairs(7):
            family = votes(k, n)
            for row in self.rows(rng, n):
                self.assert_same(vote_price(k, row), price(family, row))
                self.assert_same(vote_price(n + 1 - k, row), vote_price(k, row))
            self.assert_same(vote_strain(k, n), strain(family))
            self.assert_same(vote_strain(k, n), amount_of(Fraction(k * (n + 1 - k), n)))

    def test_contacts(self):
        rng = random.Random(2303)
        for k, n in pairs(6):
            family = votes(k, n)
            for row in self.rows(rng, n)[:5]:
                found = vote_contacts(k, row)
                self.assert_same(found, amount_of(contacts_by_loads(family, row)))
                self.assert_same(vote_contacts(n + 1 - k, row), found)
            self.assert_same(vote_contacts(k, [1] * n), (k * (n + 1 - k), 1))

    def test_contacts_by_the_orders_of_the_rises(self):
        rng = random.Random(2304)
        for k, n in pairs(5):
            rises = [Row(order) for order in permutations(vote_rises(k, n))]
            row = random_row_of(rng, n)
            self.assertEqual(fraction(vote_contacts(k, row)), min(fraction(row.dot(one)) for one in rises))
            for one in rises:
                self.assertGreaterEqual(fraction(price(votes(k, n), one)), 1)

    def test_corners(self):
        for k, n in pairs(7):
            found = vote_corners(k, n)
            self.assertEqual(found, corners_of(votes(k, n)))
            self.assertTrue(type(found) is list and all(type(row) is Row for row in found))
            found.append(None)
            self.assertEqual(vote_corners(k, n), corners_of(votes(k, n)))

    def test_rises_and_products(self):
        for k, n in pairs(12):
            plain = [e // 2 + 1 for e in range(n)]
            due = tuple(min(step, k, n + 1 - k) for step in plain)
            self.assert_same(vote_rises(k, n), due)
            for m in range(1, n + 1):
                most = max(a * (m + 1 - a) for a in range(1, k + 1) if 1 <= m + 1 - a <= n + 1 - k)
                self.assert_same(vote_product(k, n, m), most)
                self.assertEqual(sum(due[:m]), most)

    def test_the_price_is_one_or_more(self):
        rng = random.Random(2305)
        counts = {True: 0, False: 0}
        for k, n in pairs(7, 3):
            for _ in range(6):
                row = Row([rng.randint(1, 3) for _ in range(n)])
                tops = sorted(row.tops)
                enough = all(sum(tops[:m]) >= vote_product(k, n, m) for m in range(1, n + 1))
                self.assertIs(fraction(price(votes(k, n), row)) >= 1, enough)
                self.assertIs(fraction(vote_price(k, row)) >= 1, enough)
                counts[enough] += 1
        self.assertTrue(counts[True] > 20 and counts[False] > 20)


class GreatVotesTest(Case):
    """Up to 60 entries, alone."""

    def test_against_the_definitions(self):
        rng = random.Random(2306)
        for n in (8, 13, 31, 59, 60):
            for k in {1, 2, n // 3, n // 2, n - 1, n}:
                row = [rng.randint(0, 10 ** 40 - 1) for _ in range(n)]
                tops = sorted(row)
                self.assert_same(vote_short(k, row), (sum(tops[:k]), 1))
                due = min(Fraction(sum(tops[:n - i]), k - i) for i in range(k))
                self.assert_same(vote_cap(k, row), amount_of(due))
                due = min(Fraction(sum(tops[:m]), vote_product(k, n, m)) for m in range(1, n + 1))
                self.assert_same(vote_price(k, Row(row, 7)), amount_of(due / 7))
                due = sum(top * step for top, step in zip(reversed(tops), vote_rises(k, n)))
                self.assert_same(vote_contacts(k, Row(row, 10 ** 39)), amount_of(Fraction(due, 10 ** 39)))
                # price times contacts is at most the sum of the products
                product = fraction(vote_price(k, row)) * fraction(vote_contacts(k, row))
                self.assertLessEqual(product, sum(top * top for top in tops))
                # short times cap of the same widths and lengths is at most the sum
                product = fraction(vote_short(k, row)) * fraction(vote_cap(k, row))
                self.assertLessEqual(product, sum(top * top for top in tops))

    def test_ones(self):
        for k, n in pairs(60, 55):
            self.assert_same(vote_strain(k, n), amount_of(1 / fraction(vote_price(k, [1] * n))))
            self.assert_same(vote_contacts(k, [1] * n), (k * (n + 1 - k), 1))
            self.assert_same(vote_cap(k, [1] * n), amount_of(Fraction(n, k)))
            self.assertEqual(sum(vote_rises(k, n)), k * (n + 1 - k))

    def test_lists_tuples_and_rows(self):
        row = [5, 0, 3, 3]
        for call in WITH_ROWS:
            self.assert_same(call(2, row), call(2, tuple(row)))
            self.assert_same(call(2, row), call(2, Row(row)))
            half = call(2, Row(row, 2))
            self.assertEqual(2 * fraction(half), fraction(call(2, row)))
            self.assertEqual(row, [5, 0, 3, 3])
            self.assert_same(call(1, [7]), (7, 1))


class ErrorsTest(Case):
    """The errors, in their order."""

    def test_with_rows(self):
        for call in WITH_ROWS:
            for wrong in NOT_NUMBERS + [0, -1]:
                self.assert_error(BadNumber("k"), call, wrong, None)
                self.assert_error(BadNumber("k"), call, wrong, [1, 2])
            for wrong in NOT_LISTS + [[], ()]:
                self.assert_error(BadRow(-1), call, 10 ** 40, wrong)
            for wrong in (-1, True, None, "1", 0.5, (1, 2)):
                self.assert_error(BadRow(1), call, 9, [1, wrong, -1])
            self.assert_error(BadNumber("k"), call, 4, [1, 2, 3])
            self.assert_error(BadNumber("k"), call, 4, Row([1, 2, 3], 5))

    def test_with_numbers(self):
        for call in WITH_NUMBERS:
            for wrong in NOT_NUMBERS + [0, -1, 61, 10 ** 40]:
                self.assert_error(BadNumber("k"), call, wrong, None)
                self.assert_error(BadNumber("k"), call, wrong, 60)
            for wrong in NOT_NUMBERS + [0, 3, 61, 10 ** 40]:
                self.assert_error(BadNumber("n"), call, 4, wrong)
        for wrong in NOT_NUMBERS + [0, -1, 8, 61]:
            self.assert_error(BadNumber("m"), vote_product, 4, 7, wrong)
            self.assert_error(BadNumber("n"), vote_product, 4, 3, wrong)
            self.assert_error(BadNumber("k"), vote_product, 0, 3, wrong)

    def test_too_many_corners(self):
        for n in (8, 60):
            for k in (1, 3, n):
                self.assert_error(TooMany(7), vote_corners, k, n)
        self.assert_error(BadNumber("n"), vote_corners, 4, 61)
        self.assert_error(BadNumber("k"), vote_corners, 61, 61)


if __name__ == "__main__":
    unittest.main()
