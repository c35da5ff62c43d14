"""Points 57, 58 and 60: prices of put-in families."""

import random
import unittest

from shortbynarrow.cornerput import put_row
from shortbynarrow.corners import corners_of
from shortbynarrow.errors import BadFamily, BadRow, OtherSize, TooMany
from shortbynarrow.families import Family
from shortbynarrow.pricing import best_pairs, price
from shortbynarrow.putprices import put_price, put_prices_row, share_of
from shortbynarrow.rows import Row
from shortbynarrow.shapes import fan, ring, seven_lines, votes
from tests.brute import random_family, random_row_of, rich_families, tuples
from tests.cases import Case

S = Family.single()


def cut(families, row):
    """Return the shares of the families in a row."""
    found, start = [], 0
    for inner in families:
        found.append(Row.of_amounts([row[start + f] for f in range(inner.things)]))
        start += inner.things
    return found


def random_put(rng, most):
    """Return a family and families to put in with at most so many things altogether."""
    while True:
        family = rng.choice([ring(3), random_family(rng, rng.randint(1, 4), 4)])
        families = [rng.choice([S, ring(3), random_family(rng, rng.randint(1, 3), 3)]) for _ in range(family.things)]
        if sum(inner.things for inner in families) <= most:
            return family, families


class PutPriceTest(Case):
    """Point 57."""

    def test_example(self):
        inner = [ring(3), S, S]
        self.assertEqual(
            [list(put_prices_row(ring(3), inner, [1, 1, 1, 1, 1])), put_price(ring(3), inner, [1, 1, 1, 1, 1])],
            [[(3, 4), (1, 1), (1, 1)], (11, 16)])

    def test_against_the_family_that_is_made(self):
        rng = random.Random(701)
        for _ in range(80):
            family, families = random_put(rng, 7)
            made = family(families)
            tolls = random_row_of(rng, made.things)
            found = put_prices_row(family, families, tolls)
            self.assertIs(type(found), Row)
            parts = cut(families, tolls)
            self.assertEqual(list(found), [price(inner, part) for inner, part in zip(families, parts)])
            self.assert_same(put_price(family, families, tolls), price(made, tolls))
            self.assert_same(put_price(family, tuple(families), tolls), price(family, found))

    def test_best_pairs(self):
        rng = random.Random(702)
        for _ in range(12):
            family, families = random_put(rng, 5)
            made = family(families)
            tolls = rng.choice([Row.ones(made.things), random_row_of(rng, made.things, 2, 1)])
            row = put_prices_row(family, families, tolls)
            outer = {(tuples(x), tuples(y)) for x, y in best_pairs(family, row)}
            inner = [{(tuples(x), tuples(y)) for x, y in best_pairs(one, part)}
                     for one, part in zip(families, cut(families, tolls))]
            found = {(tuples(x), tuples(y)) for x, y in best_pairs(made, tolls)}
            for x, vs in self.choices(family, families):
                for y, ws in self.choices(~family, [~one for one in families]):
                    pair = (tuples(put_row(family, families, x, vs)), tuples(put_row(family, families, y, ws)))
                    best = (tuples(x), tuples(y)) in outer and all(
                        (tuples(vs[e]), tuples(ws[e])) in inner[e]
                        for e in range(family.things) if x.tops[e] and y.tops[e])
                    self.assertIs(pair in found, best)

    def choices(self, family, families):
        """Return a corner of the family with a corner of each inner one, in all ways."""
        found = []
        for x in corners_of(family):
            rows = [[]]
            for one in families:
                rows = [row + [v] for row in rows for v in corners_of(one)]
            found.extend([(x, row) for row in rows])
        return found

    def test_great_families(self):
        families = [votes(4, 7), seven_lines(), ring(7), fan(7), ring(3), votes(3, 6), S]
        things = sum(inner.things for inner in families)
        tolls = Row([10 ** 39 + 3 ** e for e in range(things)], 10 ** 38)
        row = put_prices_row(votes(4, 7), families, tolls)
        self.assert_same(put_price(votes(4, 7), families, tolls), price(votes(4, 7), row))
        ones = [1] * things
        self.assertEqual(list(put_prices_row(votes(4, 7), families, ones)),
                         [(7, 16), (7, 9), (7, 8), (31, 36), (3, 4), (1, 2), (1, 1)])
        # more than 60 things are no error here
        many = [Family(30, [(0, 1), (0, 2), (1, 2)])] * 3
        self.assert_same(put_price(ring(3), many, [1] * 90), (9, 16))
        self.assertEqual(share_of(many, list(range(90)), 2), Row(list(range(60, 90))))

    def test_useless_things(self):
        outer = Family(3, [(0, 2)])
        families = [ring(3), ring(5), S]
        row = put_prices_row(outer, families, [1] * 9)
        self.assertEqual(list(row), [(3, 4), (5, 6), (1, 1)])
        self.assert_same(put_price(outer, families, [1] * 9), (3, 4))
        useless = [Family(3, [(1,)]), S, S]
        self.assert_same(put_price(ring(3), useless, [9, 1, 9, 1, 1]), (3, 4))

    def test_joined(self):
        rng = random.Random(703)
        for one in rich_families(704, 30, 3, 6):
            two = random_family(rng, rng.randint(1, 5))
            q, r = random_row_of(rng, one.things), random_row_of(rng, two.things)
            tolls = Row.of_amounts([*q, *r])
            least = min([price(one, q), price(two, r)], key=lambda value: value[0] / value[1])
            self.assert_same(put_price(votes(1, 2), [one, two], tolls), least)
            self.assert_same(put_price(votes(2, 2), [one, two], tolls), least)


class SharesTest(Case):
    """The shares of a row."""

    def test_share_of(self):
        rng = random.Random(711)
        for _ in range(60):
            _, families = random_put(rng, 12)
            row = random_row_of(rng, sum(inner.things for inner in families))
            found = [share_of(families, row, e) for e in range(len(families))]
            self.assertTrue(all(type(part) is Row for part in found))
            self.assertEqual(found, cut(families, row))
        self.assertEqual(share_of((ring(3), S), (5, 6, 7, 8), 1), Row([8]))
        self.assertEqual(share_of([S, S], Row([3, 2], 6), 1), Row([1], 3))

    def test_share_of_errors(self):
        for wrong in [None, 5, "ab", S, {0: S}]:
            self.assert_error(BadFamily(-1), share_of, wrong, None, None)
        self.assert_error(BadFamily(1), share_of, [S, None, 1], None, None)
        self.assert_row_errors(4, lambda row: share_of([ring(3), S], row, 9))
        self.assert_thing_errors(2, lambda e: share_of([ring(3), S], [1] * 4, e))
        self.assert_error(BadRow(-1), share_of, [], [], 0)
        self.assert_error(OtherSize(1), share_of, [], [1], 0)


class SizesTest(Case):
    """Point 60 and the errors."""

    def test_errors(self):
        for call in (put_price, put_prices_row):
            self.assert_families_errors(3, lambda wrong, call=call: call(ring(3), wrong, None))
            self.assert_row_errors(5, lambda row, call=call: call(ring(3), [ring(3), S, S], row))

    def test_too_many(self):
        eight = ring(8)
        for call in (put_price, put_prices_row):
            self.assert_error(TooMany(7), call, ring(3), [S, S, eight], [1] * 10)
            self.assert_error(TooMany(7), call, Family(2, [(0,)]), [S, eight], [1] * 9)
            self.assert_error(OtherSize(9), call, ring(3), [S, S, eight], [1] * 9)
            self.assert_error(BadFamily(2), call, eight, [eight, S, 0], None)
        self.assert_error(TooMany(7), put_price, eight, [S] * 8, [1] * 8)
        self.assertEqual(put_prices_row(eight, [S] * 8, list(range(8))), Row(list(range(8))))


if __name__ == "__main__":
    unittest.main()
