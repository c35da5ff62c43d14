"""Points 52, 53 and 60: loads, and how the price rises and falls."""

import random
import unittest
from fractions import Fraction

from shortbynarrow.cornerput import put_row
from shortbynarrow.corners import broken_corners, corners_of
from shortbynarrow.errors import BadNumber, BadRow, BadThing, OtherSize, TooMany
from shortbynarrow.families import Family
from shortbynarrow.loads import greatest_rise, lean_loads, loads_of, price_by, rise
from shortbynarrow.pricing import best_pairs, price
from shortbynarrow.rows import Row
from shortbynarrow.shapes import ring, votes
from tests.brute import (
    NOT_LISTS, all_families, amount_of, fraction, fractions, is_amount, pairs_by_definition, random_family,
    random_row_of, rich_families, some_families, tuples, useless_beside,
)
from tests.cases import Case

BOUNDS = {1: 1, 2: 1, 3: 2, 4: 3, 5: 5, 6: 9, 7: 32}


def at_most(one, other):
    """Tell whether no entry of a tuple is above that of the other one."""
    return all(a <= b for a, b in zip(one, other))


class LoadsTest(Case):
    """Point 52."""

    def check(self, family, expected):
        """Check the loads against the products of the corners, given as a set of tuples."""
        found = loads_of(family)
        self.assertIs(type(found), list)
        self.assertTrue(all(type(row) is Row for row in found))
        self.assertEqual([tuples(row) for row in found], sorted(expected))
        lean = lean_loads(family)
        self.assertIs(type(lean), list)
        wanted = [u for u in sorted(expected) if not any(v != u and at_most(v, u) for v in expected)]
        self.assertEqual([tuples(row) for row in lean], wanted)
        self.assertLessEqual(max(max(u) for u in expected), 1)
        self.assertLessEqual(max(row.bottom for row in found), BOUNDS[len(family.useful)] ** 2)
        singles = [Row.of_set([e], family.things) for e in reversed(family.useful)]
        self.assertIs(lean == singles, not broken_corners(family))
        self.assertEqual(loads_of(~family), found)
        return found, lean

    def test_all_small_families(self):
        for things in (1, 2, 3):
            for family in all_families(things):
                pairs = pairs_by_definition(family)
                self.check(family, {tuple(a * b for a, b in zip(x, y)) for x, y in pairs})

    def test_random(self):
        rng = random.Random(501)
        for family in some_families(502, 30) + rich_families(503, 30, 3, 6):
            corners = [tuples(x) for x in corners_of(family)]
            others = [tuples(y) for y in corners_of(~family)]
            products = {tuple(a * b for a, b in zip(x, y)) for x in corners for y in others}
            found, lean = self.check(family, products)
            for _ in range(3):
                tolls = random_row_of(rng, family.things)
                self.assert_same(price_by(found, tolls), price(family, tolls))
                self.assert_same(price_by(tuple(lean), tolls), price(family, tolls))

    def test_put_in(self):
        rng = random.Random(504)
        for _ in range(20):
            outer = random_family(rng, rng.randint(1, 2), 3)
            families = [random_family(rng, rng.randint(1, 3), 3) for _ in range(outer.things)]
            if rng.random() < 0.5:
                families[0] = ring(3)
            made = set()
            for u in loads_of(outer):
                choices = [[]]
                for e, inner in enumerate(families):
                    own = loads_of(inner) if u.tops[e] else loads_of(inner)[:1]
                    choices = [choice + [v] for choice in choices for v in own]
                made |= {tuples(put_row(outer, families, u, choice)) for choice in choices}
            self.assertEqual([tuples(row) for row in loads_of(outer(families))], sorted(made))

    def test_ring(self):
        self.assertEqual(lean_loads(ring(3)), [
            Row([0, 0, 1]), Row([0, 1, 1], 2), Row([0, 1, 0]), Row([1, 1, 1], 4), Row([1, 0, 1], 2),
            Row([1, 1, 0], 2), Row([1, 0, 0])])
        self.assertEqual(loads_of(Family.single()), [Row([1])])
        self.assertIn(Row([0, 1, 1]), loads_of(ring(3)))
        self.assertNotIn(Row([0, 1, 1]), lean_loads(ring(3)))

    def test_price_by(self):
        rng = random.Random(505)
        for _ in range(60):
            size = rng.randint(1, 5)
            loads = [random_row_of(rng, size) for _ in range(rng.randint(1, 5))]
            tolls = random_row_of(rng, size)
            least = min(sum(a * b for a, b in zip(fractions(u), fractions(tolls))) for u in loads)
            self.assert_same(price_by(loads, tolls), amount_of(least))
        self.assertEqual(price_by([[1, 2], Row([1, 1], 2)], (3, 4)), (7, 2))
        self.assertEqual(price_by(((0,),), [5]), (0, 1))

    def test_price_by_errors(self):
        for wrong in NOT_LISTS + [Row([1, 1])]:
            self.assert_error(BadRow(-1), price_by, wrong, None)
        self.assert_error(BadNumber("loads"), price_by, [], None)
        self.assert_error(BadNumber("loads"), price_by, (), [-1])
        for wrong in NOT_LISTS + [[], [-1], [True, 1], [1, (1, 2)]]:
            self.assert_error(BadRow(0), price_by, [wrong, None], None)
            self.assert_error(BadRow(2), price_by, [[1, 2], Row([1, 1]), wrong, [1]], None)
        self.assert_error(OtherSize(3), price_by, [[1, 2], [1, 2, 3], None], None)
        self.assert_error(OtherSize(1), price_by, [[1, 2], [1, 2], Row([1])], None)
        self.assert_row_errors(3, lambda row: price_by([[1, 1, 1], [2, 0, 0]], row))


class RiseTest(Case):
    """Point 53."""

    def test_against_the_best_pairs(self):
        rng = random.Random(511)
        for family in some_families(512, 40) + rich_families(513, 40, 3, 6):
            tolls = rng.choice([random_row_of(rng, family.things), Row.ones(family.things)])
            loads = [x * y for x, y in best_pairs(family, tolls)]
            for e in range(family.things):
                entries = [fraction(u[e]) for u in loads]
                self.assert_same(rise(family, tolls, e), amount_of(min(entries)))
                self.assert_same(greatest_rise(family, tolls, e), amount_of(max(entries)))

    def test_prices_at_changed_tolls(self):
        rng = random.Random(514)
        for family in some_families(515, 30) + rich_families(516, 30, 3, 6):
            tolls = rng.choice([random_row_of(rng, family.things, 4, 2), Row.ones(family.things)])
            value = fraction(price(family, tolls))
            for e in range(family.things):
                up, down = fraction(rise(family, tolls, e)), fraction(greatest_rise(family, tolls, e))
                entry = fraction(tolls[e])
                for t in (Fraction(1, 10 ** 9), Fraction(1, 3), Fraction(5)):
                    more = fraction(price(family, tolls.with_entry(e, amount_of(entry + t))))
                    self.assertTrue(value <= more <= value + t * up)
                    self.assertTrue(more == value + t * up or t > Fraction(1, 10 ** 9))
                    if t <= entry:
                        less = fraction(price(family, tolls.with_entry(e, amount_of(entry - t))))
                        self.assertLessEqual(less, value - t * down)
                        self.assertTrue(less == value - t * down or t > Fraction(1, 10 ** 9))

    def test_edges(self):
        ones = [1, 1, 1]
        self.assertEqual((rise(ring(3), ones, 0), greatest_rise(ring(3), ones, 0)), ((1, 4), (1, 4)))
        self.assertEqual((rise(ring(3), [2, 1, 1], 0), greatest_rise(ring(3), [2, 1, 1], 0)), ((0, 1), (1, 4)))
        self.assertEqual(greatest_rise(ring(3), [0, 0, 0], 0), (1, 1))
        useless = Family(3, [(0, 1)])
        self.assertEqual((rise(useless, ones, 2), greatest_rise(useless, ones, 2)), ((0, 1), (0, 1)))
        self.assertTrue(is_amount(rise(Family.single(), [4], 0)))
        self.assertEqual(rise(Family.single(), [4], 0), (1, 1))


class SizesTest(Case):
    """Point 60 and the errors."""

    def test_errors(self):
        for call in (rise, greatest_rise):
            self.assert_row_errors(3, lambda row, call=call: call(Family(3, [(0, 1)]), row, None))
            self.assert_thing_errors(3, lambda thing, call=call: call(Family(3, [(0, 1)]), [0, 0, 0], thing))
            self.assert_error(TooMany(7), call, ring(8), [1] * 8, 0)
            self.assert_error(BadThing(8), call, ring(8), [1] * 8, 8)
        for call in (loads_of, lean_loads):
            self.assert_error(TooMany(7), call, ring(8))

    def test_useless_things(self):
        places = [2, 5, 17, 30, 31, 45, 59]
        family = useless_beside(ring(7), places, 60)
        for call in (loads_of, lean_loads):
            found, small = call(family), call(ring(7))
            self.assertEqual([[row[e] for e in places] for row in found], [list(row) for row in small])
            self.assertTrue(all(row.total() == other.total() for row, other in zip(found, small)))
        tolls = Row([10 ** 39 + e for e in range(60)], 10 ** 39)
        self.assertEqual((rise(family, tolls, 0), greatest_rise(family, tolls, 0)), ((0, 1), (0, 1)))
        small = Row.of_amounts([tolls[e] for e in places])
        self.assert_same(rise(family, tolls, 31), rise(ring(7), small, 4))
        self.assert_same(greatest_rise(family, tolls, 31), greatest_rise(ring(7), small, 4))
        self.assert_same(price_by(lean_loads(family), tolls), price(family, tolls))

    def test_many_corners(self):
        family = Family(7, [
            (0, 1, 2, 3, 4), (0, 1, 2, 6), (0, 1, 3, 6), (0, 1, 4, 5), (0, 2, 3, 5), (0, 2, 3, 6),
            (0, 2, 4, 6), (0, 3, 4, 6), (0, 3, 5, 6), (1, 2, 3, 6), (1, 2, 4, 5), (1, 3, 4, 6), (1, 3, 5),
            (1, 5, 6), (2, 3, 4, 5)])
        lean = lean_loads(family)
        tolls = Row([10 ** 39 + 7 ** e for e in range(7)], 10 ** 38)
        self.assert_same(price_by(lean, tolls), price(family, tolls))
        self.assertEqual(len(loads_of(votes(4, 7))), 463)


if __name__ == "__main__":
    unittest.main()
