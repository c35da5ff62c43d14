"""Points 23 to 26: the factor that keeps, and the entries at one thing."""

import random
import unittest
from fractions import Fraction

from shortbynarrow.amounts import apart
from shortbynarrow.errors import BadAmount, BadRow, BadThing, OtherSize
from shortbynarrow.families import Family
from shortbynarrow.lengths import narrow, short
from shortbynarrow.parts import is_lost
from shortbynarrow.products import fourfold, keeps, keeps_at, worst_entries
from shortbynarrow.rows import Row
from shortbynarrow.shapes import fan, ring, votes
from tests.brute import NOT_LISTS, amount_of, fraction, fractions, random_family, random_row_of
from tests.cases import Case

FACTORS = [0, (1, 3), (1, 2), [3, 4], 1, (4, 3), [2, 1], 5]


def cases(seed, count):
    """Return random families with factors, rows of lengths and widths, and tolls or None."""
    rng = random.Random(seed)
    found = []
    for _ in range(count):
        family = random_family(rng, rng.randint(1, 5), 5)
        rows = [random_row_of(rng, family.things, 3, 2) for _ in range(2)]
        tolls = rng.choice([None, random_row_of(rng, family.things, 3, 3), [1] * family.things])
        found.append((family, rng.choice(FACTORS), rows[0], rows[1], tolls))
    return found


def excess(family, factor, lengths, widths, tolls, e, pair):
    """Return short * narrow less the factor times the sum, with other entries at a thing."""
    one, two = lengths.with_entry(e, amount_of(pair[0])), widths.with_entry(e, amount_of(pair[1]))
    prices = [Fraction(1)] * family.things
    if tolls is not None:
        prices = fractions(tolls if isinstance(tolls, Row) else Row(tolls))
    g = Fraction(factor) if isinstance(factor, int) else fraction(factor)
    total = sum(q * x * y for q, x, y in zip(prices, fractions(one), fractions(two)))
    return fraction(short(family, one)) * fraction(narrow(family, two)) - g * total


class KeepsTest(Case):
    """Point 23."""

    def test_example(self):
        ones = [1, 1, 1]
        self.assertEqual(
            (keeps(ring(3), 1, ones, ones), keeps(ring(3), (4, 3), ones, ones),
             keeps_at(ring(3), 0, (4, 3), ones, ones)),
            (False, True, True))
        self.assertEqual(
            (fourfold(ring(3), 0, ones, ones), worst_entries(ring(3), 0, 1, ones, ones)),
            (((2, 1), (1, 1), (2, 1), (1, 1)), ((1, 1), (1, 1))))

    def test_against_definition(self):
        for family, factor, lengths, widths, tolls in cases(81, 300):
            pair = (fraction(lengths[0]), fraction(widths[0]))
            value = excess(family, factor, lengths, widths, tolls, 0, pair)
            self.assertIs(keeps(family, factor, lengths, widths, tolls=tolls), value <= 0)
            if tolls is None:
                self.assertIs(keeps(family, factor, lengths, widths), value <= 0)

    def test_long_integers(self):
        long = 10 ** 39
        ones = [long, long, long]
        self.assertIs(keeps(ring(3), (4, 3), ones, ones), True)
        self.assertIs(keeps(ring(3), (4 * long - 1, 3 * long), ones, ones), False)
        self.assertIs(keeps(ring(3), 1, ones, ones, tolls=[long, 0, 0]), True)
        self.assertIs(keeps(ring(3), 1, ones, ones, tolls=Row([4, 4, 4], 3)), True)
        self.assertIs(keeps(ring(3), 1, ones, ones, tolls=Row([4, 4, 3], 3)), False)


class FourfoldTest(Case):
    """Point 24."""

    def test_against_definition(self):
        for family, _, lengths, widths, _ in cases(82, 200):
            for e in range(family.things):
                a1, a0, b1, b0 = None, (0, 1), None, (0, 1)
                if not is_lost(family, [e], []):
                    a1, b0 = short(family - e, lengths), narrow(family - e, widths)
                if not is_lost(family, [], [e]):
                    a0, b1 = short(family // e, lengths), narrow(family // e, widths)
                self.assert_same(fourfold(family, e, lengths, widths), (a1, a0, b1, b0))
                other = fourfold(family, e, lengths.with_entry(e, 5), widths.with_entry(e, 7))
                self.assertEqual(other, (a1, a0, b1, b0))

    def test_lost_parts(self):
        ones = [1, 1, 1]
        self.assertEqual(fourfold(Family(3, [(1,)]), 1, ones, ones), (None, (0, 1), None, (0, 1)))
        self.assertEqual(fourfold(Family(3, [(1, 2)]), 1, ones, ones), (None, (1, 1), (1, 1), (0, 1)))
        self.assertEqual(fourfold(Family(3, [(1,), (0, 2)]), 1, ones, ones), ((2, 1), (0, 1), None, (1, 1)))
        self.assertEqual(fourfold(Family(3, [(0,)]), 1, [2, 1, 1], [3, 1, 1]), ((2, 1), (2, 1), (3, 1), (3, 1)))


class KeepsAtTest(Case):
    """Points 25 and 26."""

    def test_against_entries(self):
        for family, factor, lengths, widths, tolls in cases(83, 500):
            for e in range(family.things):
                self.check(family, factor, lengths, widths, tolls, e)

    def test_great_toll(self):
        # of the three conditions of point 25 just the first or the second one fails
        self.assertIs(keeps_at(ring(3), 0, 1, [1, 1, 1], [1, 3, 0], tolls=Row([10, 1, 1], 2)), False)
        self.assertIs(keeps_at(ring(3), 0, 1, [1, 3, 0], [1, 1, 1], tolls=Row([10, 1, 1], 2)), False)
        self.assertIs(keeps_at(ring(3), 0, 1, [1, 1, 1], [1, 1, 1], tolls=Row([18, 1, 1], 2)), False)
        self.assertIs(keeps_at(ring(3), 0, 1, [1, 1, 1], [1, 3, 0], tolls=Row([10, 2, 1], 2)), True)
        rng = random.Random(86)
        for family, factor, lengths, widths, _ in cases(87, 200):
            e = rng.randrange(family.things)
            tolls = random_row_of(rng, family.things, 2, 3).with_entry(e, rng.randint(1, 40))
            self.check(family, factor, lengths, widths, tolls, e)

    def check(self, family, factor, lengths, widths, tolls, e):
        """Check the answer at one thing against many entries there."""
        found = keeps_at(family, e, factor, lengths, widths, tolls=tolls)
        a1, a0, b1, b0 = fourfold(family, e, lengths, widths)
        d = None if a1 is None else fraction(apart(a1, a0))
        dd = None if b1 is None else fraction(apart(b1, b0))
        some = [Fraction(0), Fraction(1, 9), Fraction(1), Fraction(7)]
        # a lost part lets an entry grow without end: then a very great one stands for it
        ones = some + [Fraction(10 ** 6) if d is None else d]
        twos = some + [Fraction(10 ** 6) if dd is None else dd]
        values = {(x, y): excess(family, factor, lengths, widths, tolls, e, (x, y))
                  for x in ones for y in twos}
        self.assertIs(found, all(value <= 0 for value in values.values()))
        changed = keeps_at(family, e, factor, lengths.with_entry(e, 9), widths.with_entry(e, 0), tolls=tolls)
        self.assertIs(changed, found)
        pairs = [(x, y) for y in ([Fraction(0)] if dd is None else [Fraction(0), dd])
                 for x in ([Fraction(0)] if d is None else [Fraction(0), d])]
        best = max(excess(family, factor, lengths, widths, tolls, e, pair) for pair in pairs)
        first = [p for p in pairs if excess(family, factor, lengths, widths, tolls, e, p) == best][0]
        worst = worst_entries(family, e, factor, lengths, widths, tolls=tolls)
        self.assert_same(worst, (amount_of(first[0]), amount_of(first[1])))
        price = Fraction(factor) if isinstance(factor, int) else fraction(factor)
        if tolls is not None:
            price *= fractions(tolls if isinstance(tolls, Row) else Row(tolls))[e]
        if price >= 1 or (d is not None and dd is not None):
            self.assertIs(found, best <= 0)

    def test_lost_parts(self):
        ones = [1, 1, 1]
        only = Family(3, [(1,)])
        self.assertIs(keeps_at(only, 1, 1, ones, ones), True)
        self.assertIs(keeps_at(only, 1, (9, 10), ones, ones), False)
        self.assertIs(keeps_at(only, 1, (1, 2), ones, ones, tolls=[0, 2, 0]), True)
        self.assertIs(keeps_at(only, 1, 5, ones, ones, tolls=[1, 0, 1]), False)
        both = Family(3, [(1, 2)])
        self.assertIs(keeps_at(both, 1, 1, ones, ones), True)
        self.assertIs(keeps_at(both, 1, (1, 2), ones, [1, 1, 0]), True)
        self.assertIs(keeps_at(both, 1, (1, 2), ones, ones), False)
        self.assertIs(keeps_at(both, 1, 1, ones, ones, tolls=Row([1, 2, 1], 2)), True)
        self.assertIs(keeps_at(both, 1, 1, ones, ones, tolls=Row([0, 2, 1], 2)), False)
        self.assertIs(keeps_at(both, 1, 1, ones, ones, tolls=Row([1, 2, 1], 3)), False)
        either = Family(3, [(1,), (2,)])
        self.assertIs(keeps_at(either, 1, 1, ones, ones), True)
        self.assertIs(keeps_at(either, 1, (1, 2), [1, 1, 0], ones), True)
        self.assertIs(keeps_at(either, 1, (1, 2), ones, ones), False)
        self.assertEqual(worst_entries(only, 1, 1, ones, ones), ((0, 1), (0, 1)))
        self.assertEqual(worst_entries(both, 1, (1, 2), ones, ones), ((0, 1), (1, 1)))
        self.assertEqual(worst_entries(either, 1, (1, 2), ones, ones), ((1, 1), (0, 1)))

    def test_keeps_for_all_rows(self):
        rng = random.Random(84)
        for family, factor in ((ring(3), (4, 3)), (votes(2, 4), (3, 2)), (fan(4), (9, 7))):
            for _ in range(40):
                lengths = random_row_of(rng, family.things)
                widths = random_row_of(rng, family.things)
                self.assertIs(keeps(family, factor, lengths, widths), True)
                for e in range(family.things):
                    self.assertIs(keeps_at(family, e, factor, lengths, widths), True)
            ones = list(range(1, family.things))
            lengths = [2, 1, 1, 1] if family == fan(4) else [1] * family.things
            less = (factor[0] * 1000 - 1, factor[1] * 1000)
            self.assertIs(keeps(family, less, lengths, lengths), False, ones)
            self.assertIs(keeps_at(family, 0, less, lengths, lengths), False)

    def test_great_families(self):
        rng = random.Random(85)
        family = Family(60, [list(range(k, 60, 6)) for k in range(3)])
        lengths = [rng.randint(0, 10 ** 40) for _ in range(60)]
        self.assertIs(keeps(family, 1, lengths, lengths), True)
        self.assertIs(keeps_at(family, 7, 1, lengths, lengths), True)
        self.assertEqual(len(worst_entries(family, 7, 1, lengths, lengths)), 2)


class ErrorsTest(Case):
    """The errors of all four functions, in turn."""

    def test_thing_and_factor(self):
        family, ones = ring(3), [1, 1, 1]
        for wrong in [-1, 3, True, None, "0", 0.0, [0]]:
            self.assert_error(BadThing(wrong), fourfold, family, wrong, None, None)
            for call in (keeps_at, worst_entries):
                self.assert_error(BadThing(wrong), call, family, wrong, None, None, None, tolls=7)
        for wrong in [-1, True, None, "1", (1, 0), (1,), 1.5, [1, 2, 3]]:
            self.assert_error(BadAmount("factor"), keeps, family, wrong, None, None, tolls=7)
            for call in (keeps_at, worst_entries):
                self.assert_error(BadAmount("factor"), call, family, 0, wrong, None, None, tolls=7)
        self.assertIs(keeps(family, [8, 6], tuple(ones), ones), True)
        self.assertRaises(TypeError, keeps, family, 1, ones, ones, ones)
        self.assertRaises(TypeError, keeps_at, family, 0, 1, ones, ones, ones)
        self.assertRaises(TypeError, worst_entries, family, 0, 1, ones, ones, ones)

    def test_rows(self):
        family = ring(3)
        calls = [
            lambda one, two, tolls: keeps(family, 1, one, two, tolls=tolls),
            lambda one, two, tolls: keeps_at(family, 0, 1, one, two, tolls=tolls),
            lambda one, two, tolls: worst_entries(family, 0, 1, one, two, tolls=tolls),
        ]
        good = [1, 1, 1]
        for call in calls + [lambda one, two, tolls: fourfold(family, 0, one, two)]:
            for wrong in NOT_LISTS + [[]]:
                self.assert_error(BadRow(-1), call, wrong, [-1], [-1, 2])
                self.assert_error(BadRow(-1), call, good, wrong, [-1, 2])
            self.assert_error(BadRow(0), call, [-1, True], None, None)
            self.assert_error(OtherSize(2), call, [1, 1], None, None)
            self.assert_error(BadRow(1), call, good, [1, True], None)
            self.assert_error(OtherSize(4), call, good, Row([1, 1, 1, 1]), 7)
        for call in calls:
            self.assert_error(BadRow(-1), call, good, good, 7)
            self.assert_error(BadRow(2), call, good, good, [1, 1, None])
            self.assert_error(OtherSize(1), call, good, good, [1])


if __name__ == "__main__":
    unittest.main()
