"""Points 137 to 140: prices and pairs at tolls that are known only as stretches."""

import random
import unittest
from fractions import Fraction
from itertools import product

from shortbynarrow.corners import corners_of
from shortbynarrow.errors import BadAmount, BadRow, NotCover, OtherSize, TooMany
from shortbynarrow.families import Family
from shortbynarrow.loads import lean_loads, loads_of
from shortbynarrow.pricing import best_pairs, price, sum_of_pair
from shortbynarrow.rows import Row
from shortbynarrow.shapes import fan, ring, seven_lines, votes
from shortbynarrow.stretches import Stretches
from shortbynarrow.unseen import end_row, is_safe, price_ends, regret, row_with_price, safe_pairs, worst_row
from tests.brute import (
    amount_of, fraction, fractions, is_amount, random_cover, random_row_of, rich_families, some_families, tuples,
    useless_beside,
)
from tests.cases import Case
from tests.test_stretches import random_stretches


def cases(seed, count, most=4):
    """Return families with stretches for their things."""
    rng = random.Random(seed)
    families = rich_families(seed, count, 3, 6) + some_families(seed + 1, count // 2) + [ring(3), fan(4), ring(5)]
    return [(family, random_stretches(rng, family.things, most)) for family in families]


def ends_of(stretches):
    """Return the rows of all choices of a low or a high number for each thing."""
    return [Row(list(tops)) for tops in product(*[sorted(set(entry)) for entry in stretches.ends])]


def some_rows(rng, stretches):
    """Return random rows that agree."""
    found = []
    for _ in range(4):
        bottom = rng.randint(1, 4)
        found.append(Row([rng.randint(low * bottom, high * bottom) for low, high in stretches.ends], bottom))
    return found


def excess(load, other, row):
    """Return by how much the one load is above the other one at a row, a Fraction."""
    return sum((a - b) * c for a, b, c in zip(fractions(load), fractions(other), fractions(row)))


class PricesTest(Case):
    """Point 137."""

    def test_example(self):
        family, known, half = votes(2, 3), Stretches([(1, 2), (1, 2), (1, 2)]), Row([1, 1, 1], 2)
        found = row_with_price(family, known, 1)
        self.assertEqual(
            [price_ends(family, known), found.tops, found.bottom, regret(family, known, half, half),
             worst_row(family, known, half, half).tops], [((3, 4), (3, 2)), (4, 4, 4), 3, (1, 4), (2, 2, 1)])

    def test_ends(self):
        rng = random.Random(3301)
        for family, known in cases(3302, 60):
            found = price_ends(family, known)
            self.assert_same(found, (price(family, known.lows()), price(family, known.highs())))
            for row in some_rows(rng, known):
                self.assertTrue(fraction(found[0]) <= fraction(price(family, row)) <= fraction(found[1]))

    def test_row_with_price(self):
        rng = random.Random(3303)
        kinds = {"low": 0, "high": 0, "between": 0}
        for family, known in cases(3304, 80):
            low, high = [fraction(value) for value in price_ends(family, known)]
            for part in (0, 1, Fraction(1, 2), Fraction(rng.randint(0, 7), 7)):
                value = low + part * (high - low)
                found = row_with_price(family, known, amount_of(value))
                self.assertIs(type(found), Row)
                self.assertEqual(fraction(price(family, found)), value)
                self.check_first(family, known, found, value)
                kinds["low" if value == low else "high" if value == high else "between"] += 1
            self.assertEqual(row_with_price(family, known, amount_of(low)), known.lows())
        self.assertTrue(min(kinds.values()) > 30)

    def check_first(self, family, known, found, value):
        """Check that a row is on the straight way, and that the price is less ahead of it."""
        steps = {(fraction(found[e]) - low) / (high - low) for e, (low, high) in enumerate(known.ends) if high > low}
        self.assertLessEqual(len(steps), 1)
        self.assertTrue(all(fraction(found[e]) == low for e, (low, high) in enumerate(known.ends) if low == high))
        if steps and min(steps) > 0:
            step = min(steps)
            self.assertLessEqual(step, 1)
            for part in (Fraction(9, 10), Fraction(999, 1000)):
                ahead = Row.of_amounts([amount_of(low + step * part * (high - low)) for low, high in known.ends])
                self.assertLess(fraction(price(family, ahead)), value)

    def test_the_price_stands_still(self):
        # the price is 1 from the middle of the way on: thing 0 is at 1 all the way
        family, known = ring(3), Stretches([(1, 1), (0, 10), (0, 10)])
        found = row_with_price(family, known, 1)
        self.assertEqual(fraction(price(family, found)), 1)
        self.check_first(family, known, found, Fraction(1))
        self.assertLess(fraction(found[1]), 2)
        self.assertEqual(row_with_price(family, known, 0), Row([1, 0, 0]))
        # nothing rises at all
        seen = Stretches([(2, 2)] * 3)
        self.assertEqual(row_with_price(family, seen, (3, 2)), Row([2, 2, 2]))
        self.assertEqual(row_with_price(family, seen, [6, 4]), Row([2, 2, 2]))

    def test_values(self):
        family, known = votes(2, 3), Stretches([(1, 2), (1, 2), (1, 2)])
        for wrong in (None, -1, True, "1", (1, 0), (-1, 2), (1,), (1, 2, 3), 0.5):
            self.assert_error(BadAmount("value"), row_with_price, family, known, wrong)
            self.assert_error(BadAmount("value"), row_with_price, ring(8), Stretches([(1, 2)] * 8), wrong)
        for wrong in (0, (749, 1000), (1501, 1000), 2, 10 ** 40):
            self.assert_error(BadAmount("value"), row_with_price, family, known, wrong)
            self.assert_error(TooMany(7), row_with_price, ring(8), Stretches([(1, 2)] * 8), wrong)
        self.assertEqual(row_with_price(family, known, (3, 2)), Row([2, 2, 2]))
        self.assertEqual(row_with_price(family, known, (3, 4)), Row([1, 1, 1]))

    def test_great_numbers(self):
        rng = random.Random(3305)
        for family in (votes(4, 7), seven_lines(), useless_beside(fan(6), [3, 59, 17, 20, 41, 0], 60)):
            known = Stretches([(rng.randint(0, 10 ** 39), rng.randint(10 ** 39, 10 ** 40 - 1))
                               for _ in range(family.things)])
            low, high = [fraction(value) for value in price_ends(family, known)]
            value = (2 * low + high) / 3
            found = row_with_price(family, known, amount_of(value))
            self.assertEqual(fraction(price(family, found)), value)
            self.check_first(family, known, found, value)


class EndRowTest(Case):
    """Point 138."""

    def test_end_rows(self):
        rng = random.Random(3306)
        for family, known in cases(3307, 50):
            u, v = random_row_of(rng, family.things), random_row_of(rng, family.things)
            found = end_row(family, known, u, v)
            self.assertTrue(type(found) is Row and found.is_whole)
            due = [high if fraction(u[e]) > fraction(v[e]) else low for e, (low, high) in enumerate(known.ends)]
            self.assertEqual(found, Row(due))
            most = excess(u, v, found)
            for row in ends_of(known) + some_rows(rng, known):
                self.assertLessEqual(excess(u, v, row), most)

    def test_lists_and_equal_entries(self):
        known = Stretches([(1, 5), (2, 6), (3, 7)])
        self.assertEqual(end_row(ring(3), known, [1, 2, 0], (1, 1, 1)), Row([1, 6, 3]))
        self.assertEqual(end_row(ring(3), known, Row([1, 2, 0], 3), Row([1, 1, 1], 3)), Row([1, 6, 3]))
        self.assertEqual(end_row(ring(3), known, Row([2, 3, 4], 6), Row([1, 1, 2], 3)), Row([1, 6, 3]))

    def test_more_than_seven_things(self):
        family = Family(60, [list(range(60))])
        known = Stretches([(k, 2 * k) for k in range(60)])
        found = end_row(family, known, [k % 2 for k in range(60)], [0] * 60)
        self.assertEqual(found, Row([2 * k if k % 2 else k for k in range(60)]))


class RegretTest(Case):
    """Point 139."""

    def pairs_for(self, rng, family):
        """Return pairs of corners, and of covers that are no corners."""
        ours, theirs = corners_of(family), corners_of(~family)
        return [(rng.choice(ours), rng.choice(theirs)), (random_cover(rng, family), random_cover(rng, ~family)),
                (Row.ones(family.things), rng.choice(theirs)), (rng.choice(ours), [1] * family.things)]

    def test_regret(self):
        rng = random.Random(3308)
        kinds = {True: 0, False: 0}
        for family, known in cases(3309, 40, 3):
            ends = ends_of(known)
            prices = [fraction(price(family, row)) for row in ends]
            for x, y in self.pairs_for(rng, family):
                found = regret(family, known, x, y)
                self.assertTrue(is_amount(found))
                # what is above the price is greatest at an end: the price bends but downwards
                sums = [fraction(sum_of_pair(x, y, row)) for row in ends]
                self.assertEqual(fraction(found), max(a - b for a, b in zip(sums, prices)))
                for row in some_rows(rng, known):
                    self.assertLessEqual(
                        fraction(sum_of_pair(x, y, row)) - fraction(price(family, row)), fraction(found))
                worst = worst_row(family, known, x, y)
                self.check_worst(family, known, (x, y), worst)
                self.assertEqual(
                    fraction(sum_of_pair(x, y, worst)) - fraction(price(family, worst)), fraction(found))
                safe = is_safe(family, known, x, y)
                self.assertIs(safe, found == (0, 1))
                kinds[safe] += 1
        self.assertTrue(kinds[True] > 10 and kinds[False] > 40)

    def check_worst(self, family, known, pair, worst):
        """Check that a row is the end row against the first lean load at which the excess is greatest."""
        x, y = pair
        load = Row(x.tops, x.bottom) * (y if isinstance(y, Row) else Row(y))
        lean = lean_loads(family)
        values = [excess(load, v, end_row(family, known, load, v)) for v in lean]
        self.assertEqual(worst, end_row(family, known, load, lean[values.index(max(values))]))
        self.assertTrue(type(worst) is Row and worst.is_whole)
        every = [excess(load, v, end_row(family, known, load, v)) for v in loads_of(family)]
        self.assertEqual(max(every), max(values))

    def test_useless_things(self):
        family = Family(4, [(0, 1), (0, 3), (1, 3)])
        known = Stretches([(1, 1), (1, 1), (2, 5), (1, 1)])
        half = Row([1, 1, 1, 1], 2)
        # the load at the useless thing is 1/4, and its toll may be 5
        self.assert_same(regret(family, known, half, half), (5, 4))
        self.assertEqual(worst_row(family, known, half, half), Row([1, 1, 5, 1]))
        self.assertIs(is_safe(family, known, half, half), False)
        best = Row([1, 1, 0, 1], 2)
        self.assert_same(regret(family, known, best, half), (0, 1))
        self.assertIs(is_safe(family, known, best, half), True)

    def test_the_first_lean_load(self):
        # thing 2 costs as much as thing 0 at most: its load comes first, though the pair is safe
        known = Stretches([(1, 2), (5, 5), (2, 2)])
        x, y = [1, 1, 0], [1, 0, 1]
        self.assert_same(regret(votes(2, 3), known, x, y), (0, 1))
        self.assertEqual(worst_row(votes(2, 3), known, x, y), Row([2, 5, 2]))
        # no other load comes as near: the first one is that of the pair itself
        known = Stretches([(1, 2), (5, 5), (3, 3)])
        self.assertEqual(worst_row(votes(2, 3), known, x, y), Row([1, 5, 3]))

    def test_great_numbers(self):
        rng = random.Random(3310)
        for family in (votes(4, 7), seven_lines(), rich_families(3311, 1, 7, 7)[0]):
            known = Stretches([(rng.randint(0, 10 ** 38), rng.randint(10 ** 38, 10 ** 40 - 1)) for _ in range(7)])
            x, y = best_pairs(family, known.lows())[0]
            found = regret(family, known, x, y)
            worst = worst_row(family, known, x, y)
            self.assertEqual(fraction(sum_of_pair(x, y, worst)) - fraction(price(family, worst)), fraction(found))


class SafePairsTest(Case):
    """Point 140."""

    def test_against_the_definition(self):
        counts = {"some": 0, "none": 0}
        for family, known in cases(3312, 50, 3):
            due = [(x, y) for x in corners_of(family) for y in corners_of(~family) if is_safe(family, known, x, y)]
            found = safe_pairs(family, known)
            self.assertEqual(found, due)
            self.assertTrue(type(found) is list and all(type(pair) is tuple for pair in found))
            counts["some" if due else "none"] += 1
            ends = ends_of(known)
            for x, y in due[:4]:
                self.assertTrue(all(sum_of_pair(x, y, row) == price(family, row) for row in ends))
                for v in loads_of(family):
                    self.assertLessEqual(excess(x * y, v, end_row(family, known, x * y, v)), 0)
            for x, y in due:
                for z, w in due[:5]:
                    for e, (low, high) in enumerate(known.ends):
                        if low < high and e in family.useful:
                            self.assertEqual((x * y)[e], (z * w)[e])
            found.append(None)
            self.assertEqual(safe_pairs(family, known), due)
        self.assertTrue(min(counts.values()) > 5)

    def test_asked(self):
        rng = random.Random(3313)
        for family, known in cases(3314, 30, 3):
            thing = rng.randrange(family.things)
            low, high = known.ends[thing]
            made = known.asked(thing, rng.randint(low, high))
            before, behind = safe_pairs(family, known), safe_pairs(family, made)
            self.assertTrue(all(pair in behind for pair in before))
            ends, new = price_ends(family, known), price_ends(family, made)
            self.assertTrue(fraction(ends[0]) <= fraction(new[0]) <= fraction(new[1]) <= fraction(ends[1]))

    def test_all_seen(self):
        for family in (ring(3), fan(4), votes(2, 4)):
            tolls = [2 + e for e in range(family.things)]
            known = Stretches([(toll, toll) for toll in tolls])
            self.assertEqual(safe_pairs(family, known), best_pairs(family, tolls))

    def test_straight_ways(self):
        rng = random.Random(3315)
        for family, known in cases(3316, 30, 3):
            lows, highs = known.lows(), known.highs()
            for x, y in best_pairs(family, lows)[:6]:
                if sum_of_pair(x, y, highs) == price(family, highs):
                    t = Fraction(rng.randint(0, 5), 5)
                    row = Row.of_amounts([amount_of(low + t * (high - low)) for low, high in known.ends])
                    self.assertEqual(sum_of_pair(x, y, row), price(family, row))

    def test_many_pairs(self):
        # a calm family of seven things: the pairs with one thing in common are safe if it is always the cheapest
        family = Family(7, [(0, 1, 2), (0, 3, 4), (0, 5, 6), (1, 3, 5)])
        known = Stretches([(1, 1)] + [(2, 9)] * 6)
        found = safe_pairs(family, known)
        self.assertTrue(all((x * y) == Row.of_set([0], 7) for x, y in found))
        self.assertGreater(len(found), 3)
        great = Stretches([(10 ** 39 + e, 10 ** 40 - 1 - e) for e in range(7)])
        for family in (votes(4, 7), seven_lines(), votes(1, 7)):
            self.assertEqual([pair for pair in safe_pairs(family, great) if not is_safe(family, great, *pair)], [])


class ErrorsTest(Case):
    """The errors, in their order."""

    def test_sizes_first(self):
        for size in (1, 2, 4):
            known = Stretches([(0, 1)] * size)
            self.assert_error(OtherSize(size), price_ends, ring(3), known)
            self.assert_error(OtherSize(size), row_with_price, ring(3), known, None)
            self.assert_error(OtherSize(size), end_row, ring(3), known, None, None)
            self.assert_error(OtherSize(size), safe_pairs, ring(3), known)
            for call in (regret, worst_row, is_safe):
                self.assert_error(OtherSize(size), call, ring(3), known, None, None)
            self.assert_error(OtherSize(size), price_ends, ring(8), known)

    def test_rows(self):
        known = Stretches([(0, 1)] * 3)
        for call in (end_row, regret, worst_row, is_safe):
            self.assert_row_errors(3, lambda row, call=call: call(ring(3), known, row, None))
            self.assert_row_errors(3, lambda row, call=call: call(ring(3), known, [0, 0, 0] if call is end_row
                                                                 else [1, 1, 1], row))
        for call in (regret, worst_row, is_safe):
            # a row that is no cover is told behind the errors of both rows
            self.assert_error(BadRow(-1), call, ring(3), known, [0, 0, 0], None)
            self.assert_error(OtherSize(2), call, ring(3), known, [0, 0, 0], [1, 1])

    def test_not_covers(self):
        known = Stretches([(0, 1)] * 4)
        family = Family(4, [(0, 1), (0, 2), (0, 3), (1, 2)])
        half = Row([1, 1, 1, 1], 2)
        for call in (regret, worst_row, is_safe):
            self.assert_error(NotCover((0, 1)), call, family, known, [0, 0, 1, 1], half)
            self.assert_error(NotCover((1, 2)), call, family, known, [1, 0, 0, 0], [0, 0, 0, 0])
            self.assert_error(NotCover((0, 2)), call, family, known, half, [0, 1, 0, 0])
            self.assert_error(NotCover((1, 2, 3)), call, family, known, half, [1, 0, 0, 0])
            self.assert_error(NotCover((0, 1)), call, family, known, half, Row([1, 1, 2, 0], 3))

    def test_too_many(self):
        eight, known = ring(8), Stretches([(0, 1)] * 8)
        ones = [1] * 8
        self.assert_error(TooMany(7), price_ends, eight, known)
        self.assert_error(TooMany(7), row_with_price, eight, known, 0)
        self.assert_error(TooMany(7), safe_pairs, eight, known)
        for call in (regret, worst_row, is_safe):
            self.assert_error(TooMany(7), call, eight, known, ones, ones)
            self.assert_error(NotCover((0, 7)), call, eight, known, [0, 1, 1, 1, 1, 1, 1, 0], ones)
            self.assert_error(NotCover((0, 2, 4, 6)), call, eight, known, ones, [0, 1, 0, 1, 0, 1, 0, 1])
            # a blocker that can not be listed
            great = Family(60, [list(range(k, k + 4)) for k in range(0, 60, 4)])
            wide = Stretches([(0, 1)] * 60)
            self.assert_error(TooMany(7), call, great, wide, [1] * 60, [1] * 60)
        self.assertEqual(end_row(eight, known, ones, [0] * 8), Row(ones))

    def test_lists_stay_as_they_were(self):
        known, x, y = Stretches([(1, 2)] * 3), [1, 1, 0], [1, 1, 0]
        for call in (regret, worst_row, is_safe, end_row):
            call(ring(3), known, x, y)
            self.assertEqual((x, y, known.ends), ([1, 1, 0], [1, 1, 0], ((1, 2),) * 3))
        self.assertEqual(tuples(worst_row(ring(3), known, tuple(x), tuple(y))),
                         tuples(worst_row(ring(3), known, x, y)))


if __name__ == "__main__":
    unittest.main()
