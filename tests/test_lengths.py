"""Points 16 to 18 and 22: short, narrow and the critical length."""

import random
import unittest

from shortbynarrow.amounts import amount, apart, at_most, least, plus, times
from shortbynarrow.errors import BadRow, BadThing, OtherSize
from shortbynarrow.families import Family
from shortbynarrow.lengths import critical, narrow, narrowest, short, shortest
from shortbynarrow.parts import is_lost
from shortbynarrow.putting import beside, both, put_in
from shortbynarrow.rows import Row
from shortbynarrow.shapes import block, ring, votes
from tests.brute import (
    NOT_LISTS, amount_of, blocker_of, fractions, random_family, random_row_of, short_of,
    some_families,
)
from tests.cases import Case

LONG = 10 ** 39


class ShortTest(Case):
    """Point 16."""

    def test_example(self):
        family = Family(4, [(0, 1), (0, 2), (0, 3), (1, 2)])
        self.assertEqual(
            (short(family, [1, 2, 3, 1]), shortest(family, [1, 2, 3, 1]), narrow(family, [1, 1, 1, 5]),
             critical(family, [1, 2, 3, 1], 0)),
            ((2, 1), ((0, 3),), (2, 1), (4, 1)))

    def test_against_definition(self):
        rng = random.Random(51)
        for family in some_families(52, 150, most_things=7, most_lots=9):
            row = random_row_of(rng, family.things)
            entries = fractions(row)
            blocks = blocker_of(family.lots, family.things)
            for lots, one, some in ((family.lots, short, shortest), (blocks, narrow, narrowest)):
                value = short_of(lots, entries)
                self.assert_same(one(family, row), amount_of(value))
                chosen = tuple(lot for lot in lots if sum(entries[e] for e in lot) == value)
                self.assert_same(some(family, row), chosen)
            self.assert_same(narrow(family, row), short(~family, row))

    def test_edges(self):
        family = Family(4, [(0, 1), (1, 2)])
        self.assert_same(short(family, [0, 0, 0, 0]), (0, 1))
        self.assert_same(narrow(family, (0, 0, 0, 9)), (0, 1))
        self.assertEqual(shortest(family, [0, 0, 0, 1]), family.lots)
        self.assertEqual(narrowest(family, [0, 0, 0, 1]), ((0, 2), (1,)))
        self.assert_same(short(family, [LONG, 3 * LONG, 2 * LONG, 0]), (4 * LONG, 1))
        self.assert_same(narrow(family, Row([LONG, 3 * LONG + 2, 2 * LONG, 0], 2)), (3 * LONG // 2, 1))
        self.assert_same(short(family, Row([1, 2, 3, 4], 6)), (1, 2))
        self.assert_same(narrow(family, Row([1, 2, 3, 4], 6)), (1, 3))

    def test_errors(self):
        family = Family(3, [(0, 1)])
        for call in (short, narrow, shortest, narrowest):
            self.check_row_errors(call, family)
        self.check_row_errors(lambda f, row: critical(f, row, 9), family)
        for wrong in (-1, 3, True, None, "0", 0.0):
            self.assert_error(BadThing(wrong), critical, family, [1, 1, 1], wrong)

    def check_row_errors(self, call, family):
        """Check the errors of a row of a family of three things."""
        for wrong in NOT_LISTS + [[]]:
            self.assert_error(BadRow(-1), call, family, wrong)
        for wrong in [-1, True, None, "1", 0.5, (1, 2)]:
            self.assert_error(BadRow(1), call, family, [1, wrong, -1, 4])
        self.assert_error(OtherSize(2), call, family, [1, 1])
        self.assert_error(OtherSize(4), call, family, Row([1, 1, 1, 1], 2))

    def test_great_families(self):
        rng = random.Random(53)
        widths = [rng.randint(0, 10 ** 40) for _ in range(60)]
        family = Family(60, [rng.sample(range(60), 3) for _ in range(200)])
        self.assert_same(short(family, widths), amount(min(sum(widths[e] for e in lot) for lot in family)))
        rows = block(2, 10)
        self.assert_same(narrow(rows, widths[:20]), amount(min(sum(widths[:10]), sum(widths[10:20]))))
        self.assertEqual(len(narrowest(votes(2, 20), [1] * 20)), 20)
        self.assert_same(narrow(ring(59), [1] * 59), (30, 1))
        self.assert_same(narrow(ring(60), [1, 2] * 30), (30, 1))
        self.assert_same(narrow(beside(*[ring(3)] * 20), [1] * 60), (40, 1))


class CriticalTest(Case):
    """Points 17 and 18."""

    def test_against_definition(self):
        rng = random.Random(54)
        for family in some_families(55, 150, most_things=5):
            row = random_row_of(rng, family.things)
            for e in range(family.things):
                found = critical(family, row, e)
                if is_lost(family, [e], []):
                    self.assertIsNone(found)
                else:
                    held = (0, 1) if is_lost(family, [], [e]) else short(family // e, row)
                    self.assert_same(found, apart(short(family - e, row), held))
                    self.assertTrue(at_most(held, short(family - e, row)))
                self.assert_same(critical(family, row.with_entry(e, 7), e), found)
                self.check_facts(family, row, e, found)

    def check_facts(self, family, row, e, found):
        """Check what point 18 says of a critical length."""
        lesser = least([row[e], found])
        if is_lost(family, [], [e]):
            self.assert_same(short(family, row), lesser)
        else:
            self.assert_same(short(family, row), plus(short(family // e, row), lesser))
        if row[e] != (0, 1):
            inside = any(e in lot for lot in shortest(family, row))
            if e in family.useful:
                self.assertIs(inside, at_most(row[e], found))

    def test_edges(self):
        family = Family(4, [(0, 1), (0, 2)])
        self.assertIsNone(critical(family, [1, 1, 1, 1], 0))
        self.assertEqual(critical(family, [1, 1, 1, 1], 3), (0, 1))
        self.assertIsNone(critical(Family(2, [(1,)]), [5, 5], 1))
        self.assertEqual(critical(Family(3, [(0,), (1, 2)]), [5, 5, 2], 0), (7, 1))
        self.assertEqual(critical(family, Row([1, 1, 2, 3], 3), 1), (2, 3))

    def test_sums(self):
        rng = random.Random(56)
        for family in some_families(57, 100):
            one = random_row_of(rng, family.things)
            two = random_row_of(rng, family.things)
            self.assertTrue(at_most(plus(short(family, one), short(family, two)), short(family, one + two)))
            k = rng.randint(0, 4)
            self.assertEqual(short(family, k * one), times(k, short(family, one)))
            common = [lot for lot in shortest(family, one) if lot in shortest(family, two)]
            if common:
                self.assertEqual(list(shortest(family, one + two)), common)


class PutInTest(Case):
    """Point 22 for short and narrow."""

    def test_put_in(self):
        rng = random.Random(58)
        for _ in range(60):
            family = random_family(rng, rng.randint(1, 3), 4)
            inner = [random_family(rng, rng.randint(1, 3), 3) for _ in range(family.things)]
            rows = [random_row_of(rng, one.things) for one in inner]
            row = Row.of_amounts([entry for one in rows for entry in one])
            made = put_in(family, inner)
            shorts = Row.of_amounts([short(one, share) for one, share in zip(inner, rows)])
            narrows = Row.of_amounts([narrow(one, share) for one, share in zip(inner, rows)])
            self.assertEqual(short(made, row), short(family, shorts))
            self.assertEqual(narrow(made, row), short(~family, narrows))
            if len(inner) == 2:
                self.assertEqual(short(beside(*inner), row), least(list(shorts)))
                self.assertEqual(short(both(*inner), row), shorts.total())
                self.assertEqual(narrow(beside(*inner), row), narrows.total())
                self.assertEqual(narrow(both(*inner), row), least(list(narrows)))


if __name__ == "__main__":
    unittest.main()
