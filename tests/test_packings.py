"""Points 19 to 22: fillings, packings, covers and whole packings."""

import random
import unittest
from fractions import Fraction

from shortbynarrow.amounts import amount, at_most, least, plus, times
from shortbynarrow.errors import BadMix, BadNumber, BadRow, OtherSize, TooMany
from shortbynarrow.families import Family
from shortbynarrow.filling import Table, fill
from shortbynarrow.lengths import narrow, short
from shortbynarrow.packings import (
    cap, cheapest_cover, packing, row_of_packing, total_of, whole, whole_packing,
)
from shortbynarrow.putting import beside, both, put_in
from shortbynarrow.rows import Row
from shortbynarrow.shapes import four_points, ring, seven_lines, votes
from tests.brute import (
    NOT_LISTS, NOT_NUMBERS, amount_of, fraction, fractions, is_amount, random_family, random_row_of,
    some_families,
)
from tests.cases import Case

LONG = 10 ** 39


class FillTest(Case):
    """Point 19, and what point 21 says of `fill`."""

    def check(self, columns, gains, room):
        """Check that the answer shows itself right from both sides."""
        total, weights, prices = answer = fill(columns, gains, room)
        self.assertEqual(answer, fill([list(c) for c in columns], tuple(gains), room))
        entries = fractions(room if isinstance(room, Row) else Row(room))
        self.assertTrue(is_amount(total))
        self.assertIs(type(weights), tuple)
        self.assertTrue(all(is_amount(weight) for weight in weights))
        self.assertEqual(len(weights), len(columns))
        self.assertIs(type(prices), Row)
        for place, space in enumerate(entries):
            used = sum(column[place] * fraction(w) for column, w in zip(columns, weights))
            self.assertLessEqual(used, space)
        self.assertEqual(sum(gain * fraction(w) for gain, w in zip(gains, weights)), fraction(total))
        for column, gain in zip(columns, gains):
            worth = sum(entry * price for entry, price in zip(column, fractions(prices)))
            self.assertGreaterEqual(worth, gain)
        worth = sum(space * price for space, price in zip(entries, fractions(prices)))
        self.assertEqual(worth, fraction(total))

    def test_random(self):
        rng = random.Random(61)
        for _ in range(300):
            places, most = rng.randint(1, 5), rng.choice([1, 3, 10 ** 40])
            columns = [[rng.randint(0, most) for _ in range(places)] for _ in range(rng.randint(1, 7))]
            for column in columns:
                column[rng.randrange(places)] += 1
            gains = [rng.randint(1, most) for _ in columns]
            room = Row([rng.randint(0, most) for _ in range(places)], rng.randint(1, most))
            before = ([list(column) for column in columns], list(gains))
            self.check(columns, gains, room)
            self.assertEqual((columns, gains), before)

    def test_edges(self):
        self.check([[1]], [1], [0])
        self.check([(1, 0), (0, 1)], [LONG, 1], [LONG, LONG])
        self.check([[2, 3], [3, 2], [1, 1]], (1, 1, 1), Row([1, 1], 7))
        self.assertEqual(fill([[2]], [3], [5])[0], (15, 2))
        # many ties at once
        self.check([[1 if e in lot else 0 for e in range(7)] for lot in seven_lines()], [1] * 7, [0] * 7)

    def test_no_circles(self):
        # The way to the greatest total ends if no amount, with ever tinier bits more of the room from
        # place to place, comes down to zero: then each exchange makes the total with the bits greater.
        rng = random.Random(74)
        for _ in range(150):
            places = rng.randint(2, 6)
            columns = [[rng.choice([-1, 0, 0, 1, 2]) for _ in range(places)] + [1]
                       for _ in range(rng.randint(2, 8))]
            table = Table(columns, [rng.randint(1, 3) for _ in columns], [0] * places + [1])
            column = table.best_column()
            while column is not None:
                table.exchange(table.first_full(column), column)
                for number, row in zip(table.shown, table.rows):
                    bits = [row[table.free.index(slack)] if slack in table.free
                            else int(slack == number) * table.bottom
                            for slack in range(table.many, table.many + len(table.rows))]
                    self.assertGreater([row[-1], *bits], [0] * (places + 2))
                column = table.best_column()

    def test_errors_in_turn(self):
        for wrong in NOT_LISTS + [[], Row([1])]:
            self.assert_error(BadRow(-1), fill, wrong, None, None)
        for wrong in NOT_LISTS + [[], [0, 0], [-1, 1], [1, True], [1, None], [(1, 2)], ["1"], Row([1, 1])]:
            self.assert_error(BadRow(1), fill, [[1], wrong, 7], None, None)
        for wrong in NOT_LISTS + [[], [1], [1, 1, 1], [1, 0], [1, -1], [1, True], ["1", 1], Row([1, 1])]:
            self.assert_error(BadNumber("gains"), fill, [[1], [1, 1]], wrong, None)
        for wrong in NOT_LISTS + [[]]:
            self.assert_error(BadRow(-1), fill, [[1], [1, 1]], [1, 1], wrong)
        self.assert_error(BadRow(1), fill, [[1], [1, 1]], [1, 1], [1, -1])
        self.assert_error(OtherSize(1), fill, [[1, 1], [1], [1, 1, 1]], [1, 1, 1], [1, 1])
        self.assert_error(OtherSize(2), fill, [[1, 1]], [1], Row([1], 2))

    def test_great_fillings(self):
        rng = random.Random(62)
        columns = [[1 if e in lot else 0 for e in range(60)]
                   for lot in (rng.sample(range(60), rng.randint(2, 20)) for _ in range(200))]
        self.check(columns, [1] * 200, [rng.randint(0, 10 ** 40) for _ in range(60)])
        self.check(columns, [rng.randint(1, 9) for _ in range(200)], [1] * 60)
        columns = [[rng.randint(1, 10 ** 40) for _ in range(12)] for _ in range(40)]
        self.check(columns, [rng.randint(1, 10 ** 40) for _ in range(40)], [10 ** 40] * 12)


class PackingTest(Case):
    """Points 20 and 21."""

    def test_example(self):
        half = (1, 2)
        self.assertEqual(packing(ring(3), [1, 1, 1]), (((0, 1), half), ((0, 2), half), ((1, 2), half)))
        ones = [1, 1, 1]
        self.assertEqual(
            (cap(ring(3), ones), list(cheapest_cover(ring(3), ones)), whole(ring(3), ones),
             whole(ring(3), [2, 2, 2])),
            ((3, 2), [half, half, half], 1, 3))

    def check(self, family, row):
        """Check a packing and a cover that show each other."""
        found, total, cover = packing(family, row), cap(family, row), cheapest_cover(family, row)
        self.assertIs(type(found), tuple)
        self.assertEqual(list(found), sorted(found))
        used = [Fraction(0)] * family.things
        for entry in found:
            self.assertIs(type(entry), tuple)
            lot, weight = entry
            self.assertIn(lot, family)
            self.assertTrue(is_amount(weight) and weight != (0, 1))
            for e in lot:
                used[e] += fraction(weight)
        self.assertEqual(len({lot for lot, _ in found}), len(found))
        for e, width in enumerate(row):
            self.assertLessEqual(used[e], fraction(width))
        self.assert_same(total_of(found), total)
        self.assertEqual(fractions(row_of_packing(found, family.things)), used)
        self.assertIs(type(cover), Row)
        self.assertTrue(all(cover.at(lot)[0] >= cover.at(lot)[1] for lot in family))
        self.assert_same(cover.dot(row), total)

    def test_random(self):
        rng = random.Random(63)
        for family in some_families(64, 150, most_things=7, most_lots=10):
            row = random_row_of(rng, family.things)
            self.check(family, row)
            self.assertTrue(at_most(cap(family, row), narrow(family, row)))
            lengths = random_row_of(rng, family.things)
            product = times(short(family, lengths), cap(family, row))
            self.assertTrue(at_most(product, lengths.dot(row)))
            self.assertEqual(packing(Family(family.things, list(family.lots)), row.scaled(1)),
                             packing(family, row))

    def test_edges(self):
        family = Family(4, [(0, 1), (1, 2)])
        self.assertEqual(packing(family, [1, 0, 1, 1]), ())
        self.assertEqual(cap(family, [0, 5, 0, 9]), (0, 1))
        self.assertEqual(cap(family, Row([1, 9, 2, 0], 3)), (1, 1))
        self.assertEqual(cap(family, [LONG, 3 * LONG, LONG, 0]), (2 * LONG, 1))
        self.check(family, Row([LONG, LONG + 1, 5, 0], LONG - 1))

    def test_errors(self):
        family = Family(3, [(0, 1)])
        for call in (packing, cap, cheapest_cover, whole, whole_packing):
            for wrong in NOT_LISTS + [[]]:
                self.assert_error(BadRow(-1), call, family, wrong)
            self.assert_error(BadRow(1), call, family, [1, -1, True, 2])
            self.assert_error(BadRow(2), call, family, (1, 1, True))
            self.assert_error(OtherSize(2), call, family, [1, 30])
            self.assert_error(OtherSize(4), call, family, Row([1, 1, 1, 30]))

    def test_great_families(self):
        rng = random.Random(65)
        family = Family(60, [rng.sample(range(60), rng.randint(2, 9)) for _ in range(200)])
        self.check(family, Row([rng.randint(0, 10 ** 40) for _ in range(60)], 10 ** 39 + 3))
        self.check(family, Row.ones(60))
        self.assertEqual(cap(ring(59), [1] * 59), (59, 2))
        self.assertEqual(cap(votes(2, 20), [1] * 20), (10, 1))


class WholePackingTest(Case):
    """Whole packings."""

    def brute(self, lots, room):
        """Return the greatest number of lots that fit into the room."""
        best = 0
        for place, lot in enumerate(lots):
            if all(room[e] for e in lot):
                rest = [width - (e in lot) for e, width in enumerate(room)]
                best = max(best, 1 + self.brute(lots[place:], rest))
        return best

    def check(self, family, widths, value):
        """Check a whole packing and its total."""
        found = whole_packing(family, widths)
        self.assertIs(type(found), tuple)
        self.assertEqual(list(found), sorted(found))
        self.assertEqual(len({lot for lot, _ in found}), len(found))
        for lot, many in found:
            self.assertIn(lot, family)
            self.assertTrue(type(many) is int and many > 0)
        row = row_of_packing(found, family.things)
        self.assertTrue((widths if isinstance(widths, Row) else Row(widths)).covers_row(row))
        self.assertEqual(sum(many for _, many in found), value)
        self.assert_same(whole(family, widths), value)

    def test_random(self):
        rng = random.Random(66)
        for family in some_families(67, 120, most_things=6):
            widths = [rng.randint(0, 3) for _ in range(family.things)]
            value = self.brute(family.lots, widths)
            self.check(family, widths, value)
            self.check(family, Row([2 * width for width in widths], 2), value)
            self.assertTrue(at_most(value, cap(family, widths)))
            other = [rng.randint(0, 1) for _ in range(family.things)]
            together = [one + two for one, two in zip(widths, other)]
            self.assertGreaterEqual(whole(family, together), value + whole(family, other))

    def test_things_set_aside(self):
        self.check(Family(5, [(0, 1, 2), (1, 3), (2, 4)]), [1] * 5, 2)
        rng = random.Random(73)
        for _ in range(80):
            things = rng.randint(4, 8)
            lots = [rng.sample(range(things), rng.randint(2, 4)) for _ in range(rng.randint(3, 8))]
            family = Family(things, lots)
            widths = [rng.randint(1, 2) for _ in range(things)]
            self.check(family, widths, self.brute(family.lots, widths))

    def test_multiples(self):
        rng = random.Random(68)
        for family in some_families(69, 60, most_things=4):
            widths = [rng.randint(0, 1) for _ in range(family.things)]
            found = packing(family, widths)
            many = 1
            for _, weight in found:
                many = many * weight[1]
            if many * sum(widths) <= 24:
                self.assertEqual(amount(whole(family, [many * width for width in widths])),
                                 times(many, cap(family, widths)))

    def test_shapes(self):
        self.check(seven_lines(), [1] * 7, 1)
        self.check(seven_lines(), [3] * 7, 7)
        self.check(four_points(), [1] * 6, 1)
        self.check(~four_points(), [1] * 6, 3)
        self.check(votes(2, 7), [1] * 7, 3)
        self.check(ring(3), [0, 0, 0], 0)
        self.check(Family(2, [(0,)]), [24, 0], 24)
        self.check(beside(*[ring(3)] * 8), [1] * 24, 8)
        self.check(beside(votes(2, 11), votes(2, 13)), [1] * 24, 11)

    def test_limit(self):
        self.check(ring(3), [8, 8, 8], 12)
        for call in (whole, whole_packing):
            self.assert_error(TooMany(24), call, ring(3), [8, 8, 9])
            self.assert_error(TooMany(24), call, ring(3), Row([10 ** 40, 0, 0]))
            self.assert_error(BadRow(0), call, ring(3), Row([1, 60, 60], 2))
            self.assert_error(BadRow(1), call, ring(3), Row([60, 1, 30], 2))
            self.assert_error(BadRow(2), call, ring(3), Row([60, 60, 61], 2))
            self.assert_error(BadRow(0), call, ring(3), Row([1, 1], 2))
            self.assert_error(OtherSize(2), call, ring(3), Row([60, 60], 2))
        self.check(Family(4, [(0, 1)]), [12, 12, 10 ** 40, 1], 12)
        self.check(beside(ring(3), Family(2, [(0,)])), [4, 4, 4, 12, 99], 18)

    def test_great_families(self):
        rng = random.Random(70)
        for size in (2, 3, 4, 6):
            family = Family(24, [rng.sample(range(24), size) for _ in range(200)])
            value = whole(family, [1] * 24)
            self.assertTrue(at_most(value, cap(family, [1] * 24)))
            self.check(family, [1] * 24, value)
        wide = Family(60, [rng.sample(range(60), 3) for _ in range(200)])
        self.check(wide, [0] * 60, 0)


class WeightedTest(Case):
    """total_of and row_of_packing."""

    def test_values(self):
        weighted = [[[2, 0], (1, 2)], ((0,), [2, 4]), ([], 3), [(0, 2), 1], ([1], 0)]
        self.assert_same(total_of(weighted), (5, 1))
        self.assertEqual(row_of_packing(tuple(weighted), 4), Row([4, 0, 3, 0], 2))
        self.assert_same(total_of([]), (0, 1))
        self.assertEqual(row_of_packing((), 3), Row([0, 0, 0]))
        self.assert_same(total_of([([59], 1)]), (1, 1))

    def test_against_fractions(self):
        rng = random.Random(71)
        for _ in range(50):
            weighted = [(rng.sample(range(5), rng.randint(0, 5)), (rng.randint(0, 9), rng.randint(1, 9)))
                        for _ in range(rng.randint(0, 6))]
            total = sum((fraction(weight) for _, weight in weighted), Fraction(0))
            self.assert_same(total_of(weighted), amount_of(total))
            sums = [sum((fraction(w) for s, w in weighted if e in s), Fraction(0)) for e in range(5)]
            self.assertEqual(fractions(row_of_packing(weighted, 5)), sums)

    def test_errors(self):
        for wrong in NOT_NUMBERS + [0, -1]:
            self.assert_error(BadNumber("size"), row_of_packing, None, wrong)
        for wrong in NOT_LISTS:
            self.assert_error(BadMix(-1), total_of, wrong)
            self.assert_error(BadMix(-1), row_of_packing, wrong, 3)
        good = ([0], 1)
        wrongs = NOT_LISTS + [
            [], [[0]], ([0], 1, 1), ([0], None), ([0], -1), ([0], (1, 0)), ([0], True), ([0], 0.5),
            ([0, 0], 1), ([-1], 1), ([True], 1), (None, 1), (0, 1), ("0", 1),
        ]
        for wrong in wrongs:
            self.assert_error(BadMix(1), total_of, [good, wrong, None])
            self.assert_error(BadMix(1), row_of_packing, [good, wrong, None], 3)
        self.assert_error(BadMix(0), total_of, [([60], 1)])
        self.assert_error(BadMix(1), row_of_packing, [([2], 1), ([3], 1)], 3)
        self.assertEqual(row_of_packing([([99], 1)], 100).support(), (99,))


class PutInTest(Case):
    """Point 22 for cap and whole."""

    def test_put_in(self):
        rng = random.Random(72)
        for _ in range(50):
            family = random_family(rng, rng.randint(1, 3), 4)
            inner = [random_family(rng, rng.randint(1, 3), 3) for _ in range(family.things)]
            rows = [random_row_of(rng, one.things, 3) for one in inner]
            row = Row.of_amounts([entry for one in rows for entry in one])
            caps = Row.of_amounts([cap(one, share) for one, share in zip(inner, rows)])
            self.assertEqual(cap(put_in(family, inner), row), cap(family, caps))
            if len(inner) == 2:
                self.assertEqual(cap(beside(*inner), row), caps.total())
                self.assertEqual(cap(both(*inner), row), least(list(caps)))
                wholes = [share * share.bottom for share in rows]
                side = [top for share in wholes for top in share.tops]
                if sum(side) <= 24:
                    one, two = [whole(f, share) for f, share in zip(inner, wholes)]
                    self.assertEqual(amount(whole(beside(*inner), side)), plus(one, two))
                    self.assertEqual(whole(both(*inner), side), min(one, two))


if __name__ == "__main__":
    unittest.main()
