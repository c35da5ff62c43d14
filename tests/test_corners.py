"""Points 31 to 38, 43 and 44: covers, corners and mixes."""

import random
import unittest
from fractions import Fraction
from math import comb

from shortbynarrow.corners import (
    bound_of, broken_corners, cheapest_corner, corners_of, whole_corners,
)
from shortbynarrow.covers import is_corner, is_cover, lowered, raised, tight_lots
from shortbynarrow.errors import BadNumber, BadRow, NotCover, OtherSize, TooMany
from shortbynarrow.families import Family
from shortbynarrow.mixes import mix_of_corners, mix_under, stretch
from shortbynarrow.packings import cap, packing, row_of_packing
from shortbynarrow.putting import beside, both, merged
from shortbynarrow.rows import Row
from shortbynarrow.shapes import block, fan, four_points, ring, seven_lines, votes
from tests.brute import (
    NOT_NUMBERS, all_families, amount_of, corners_by_definition, fraction, fractions, is_amount,
    random_cover, random_family, random_row_of, short_of, some_families,
)
from tests.cases import Case

BOUNDS = {1: 1, 2: 1, 3: 2, 4: 3, 5: 5, 6: 9, 7: 32}


def sum_on(row, lot):
    """Return the sum of a row on a lot as a Fraction."""
    return sum((fraction(row[e]) for e in lot), Fraction(0))


class CoversTest(Case):
    """Points 31 and 32."""

    def test_covers_and_tight_lots(self):
        rng = random.Random(101)
        for family in some_families(102, 150, most_things=6):
            row = random_row_of(rng, family.things)
            missing = [lot for lot in family.lots if sum_on(row, lot) < 1]
            self.assertIs(is_cover(family, row), not missing)
            if missing:
                self.assert_error(NotCover(missing[0]), tight_lots, family, row)
                self.assert_error(NotCover(missing[0]), lowered, family, row)
                self.assert_error(NotCover(missing[0]), mix_of_corners, family, row)
            cover = random_cover(rng, family)
            expected = tuple(lot for lot in family.lots if sum_on(cover, lot) == 1)
            self.assert_same(tight_lots(family, cover), expected)
            self.assertTrue(is_cover(family, cover + row))

    def test_raised(self):
        rng = random.Random(103)
        for family in some_families(104, 150, most_things=6):
            row = random_row_of(rng, family.things)
            for e in range(family.things):
                missing = [lot for lot in family.lots if e not in lot and sum_on(row, lot) < 1]
                if missing:
                    self.assert_error(NotCover(missing[0]), raised, family, row, e)
                    continue
                found = raised(family, row, e)
                needs = [1 - sum_on(row, set(lot) - {e}) for lot in family.lots if e in lot]
                self.assert_same(found, amount_of(max([Fraction(0), *needs])))
                self.assert_same(raised(family, row.with_entry(e, 9), e), found)
                self.assertTrue(is_cover(family, row.with_entry(e, found)))

    def test_lowered(self):
        rng = random.Random(105)
        for family in some_families(106, 150, most_things=6):
            cover = random_cover(rng, family)
            row = cover
            for e in range(family.things):
                row = row.with_entry(e, raised(family, row, e))
            found = lowered(family, cover)
            self.assertEqual(found, row)
            self.assertIs(type(found), Row)
            self.assertTrue(is_cover(family, found) and cover.covers_row(found))
            self.assertEqual(lowered(family, found), found)

    def test_edges(self):
        family = Family(4, [(0, 1), (1, 2)])
        self.assertEqual(raised(family, [0, 9, 0, 0], 3), (0, 1))
        self.assertEqual(raised(family, [0, 9, 0, 0], 1), (1, 1))
        self.assertEqual(raised(family, Row([1, 9, 0, 0], 2), 1), (1, 1))
        self.assertEqual(raised(family, [5, 9, 2, 0], 1), (0, 1))
        self.assertEqual(raised(family, [0, 0, 1, 0], 0), (1, 1))
        self.assert_error(NotCover((1, 2)), raised, family, [5, 0, 0, 7], 0)
        self.assertEqual(lowered(family, [9, 9, 9, 9]), Row([0, 1, 0, 0]))
        self.assertEqual(lowered(family, Row([1, 1, 3, 1], 2)), Row([1, 1, 1, 0], 2))
        long = 10 ** 39
        self.assertEqual(lowered(family, Row([long, 1, long, 3], long + 1)), Row([long, 1, long, 0], long + 1))
        self.assertIs(is_cover(family, Row([long, 1, long - 1, 0], long + 1)), False)

    def test_errors(self):
        family = Family(3, [(0, 1)])
        for call in (is_cover, tight_lots, lowered, is_corner):
            self.assert_row_errors(3, lambda row, call=call: call(family, row))
        self.assert_row_errors(3, lambda row: raised(family, row, 9))
        self.assert_thing_errors(3, lambda thing: raised(family, [0, 0, 0], thing))

    def test_great_families(self):
        rng = random.Random(107)
        family = Family(60, [rng.sample(range(60), rng.randint(2, 9)) for _ in range(200)])
        cover = Row([rng.randint(10 ** 39, 10 ** 40) for _ in range(60)], 10 ** 39)
        low = lowered(family, cover)
        self.assertTrue(is_cover(family, low))
        self.assertEqual(lowered(family, low), low)
        self.assertTrue(tight_lots(family, low))
        self.assertIn(is_corner(family, low), (True, False))
        self.assertIs(is_corner(ring(59), Row([1] * 59, 2)), True)
        self.assertIs(is_corner(ring(60), Row([1] * 60, 2)), False)
        self.assertIs(is_corner(votes(2, 20), Row([1] * 20, 2)), True)


class CornersTest(Case):
    """Points 33 to 36."""

    def test_example(self):
        rows = corners_of(ring(3))
        self.assertEqual(
            [list(rows[0]), list(rows[1]), list(rows[2]), list(rows[3]), len(rows)],
            [[(0, 1), (1, 1), (1, 1)], [(1, 2), (1, 2), (1, 2)], [(1, 1), (0, 1), (1, 1)],
             [(1, 1), (1, 1), (0, 1)], 4])

    def check(self, family):
        """Check all corners of a family of few things."""
        expected = corners_by_definition(family)
        found = corners_of(family)
        self.assertIs(type(found), list)
        self.assertTrue(all(type(row) is Row for row in found))
        self.assertEqual([tuple(fractions(row)) for row in found], expected)
        wholes, brokens = whole_corners(family), broken_corners(family)
        self.assertEqual(wholes, [row for row in found if set(fractions(row)) <= {0, 1}])
        self.assertEqual(brokens, [row for row in found if not set(fractions(row)) <= {0, 1}])
        blocks = [Row.of_set(lot, family.things) for lot in (~family).lots]
        self.assertEqual(wholes, sorted(blocks, key=fractions))
        for row in found:
            self.assertIs(is_corner(family, row), True)
            self.assertEqual(lowered(family, row), row)
            self.assertLessEqual(max(fractions(row)), 1)
            self.assertLessEqual(row.bottom, BOUNDS[len(family.useful)])
        return found

    def test_all_small_families(self):
        for things in (1, 2, 3):
            for family in all_families(things):
                self.check(family)

    def test_random(self):
        for family in some_families(111, 25, most_things=5, most_lots=6):
            found = self.check(family)
            rng = random.Random(112)
            for _ in range(10):
                cover = random_cover(rng, family)
                expected = cover in found
                self.assertIs(is_corner(family, cover), expected)
                low = lowered(family, cover)
                self.assertIs(is_corner(family, low), low in found)
            for one, two in zip(found, found[1:]):
                self.assertIs(is_corner(family, (one + two).scaled((1, 2))), False)
            self.assertIs(is_corner(family, found[0].scaled((9, 10))), False)
            self.assertIs(is_corner(family, found[0] + Row.ones(family.things)), False)

    def test_no_covers(self):
        for family in some_families(116, 40):
            self.assertIs(is_corner(family, [0] * family.things), False)
            for row in corners_of(family):
                for e in row.support():
                    self.assertIs(is_corner(family, row.with_entry(e, 0)), False)
        self.assertIs(is_corner(Family(4, [(0, 1), (1, 2), (2, 3)]), [1, 0, 0, 1]), False)
        self.assertIs(is_corner(ring(3), Row([1, 0, 0])), False)

    def test_new_lists(self):
        one = corners_of(ring(3))
        one.clear()
        self.assertEqual(len(corners_of(ring(3))), 4)
        two = broken_corners(ring(4))
        self.assertEqual(two, [])
        two.append(1)
        self.assertEqual(broken_corners(ring(4)), [])

    def test_votes(self):
        for k in range(1, 8):
            found = corners_of(votes(k, 7))
            many = 7 if k == 7 else sum(comb(7, z) for z in range(k))
            self.assertEqual(len(found), many)
            for row in found:
                zeros = 7 - len(row.support())
                self.assertEqual(row.bottom, 1 if k == 7 else k - zeros)
                self.assertEqual(set(row.tops), {0, 1} if zeros else {1})

    def test_shapes(self):
        self.assertEqual(broken_corners(fan(5)), [Row([3, 1, 1, 1, 1], 4)])
        self.assertEqual(broken_corners(ring(7)), [Row([1] * 7, 2)])
        self.assertEqual(broken_corners(seven_lines())[-1:], [Row([1] * 7, 3)])
        self.assertEqual(broken_corners(four_points()), [])
        self.assertEqual(broken_corners(block(2, 3)), [])
        self.assertEqual(len(whole_corners(block(3, 2))), 3)

    def test_cheapest(self):
        rng = random.Random(113)
        for family in some_families(114, 100, most_things=5):
            tolls = random_row_of(rng, family.things)
            found = cheapest_corner(family, tolls)
            corners = corners_of(family)
            costs = [fraction(row.dot(tolls)) for row in corners]
            self.assertEqual(found, corners[costs.index(min(costs))])
            self.assertIs(type(found), Row)
            self.assert_same(found.dot(tolls), cap(family, tolls))
            used = row_of_packing(packing(family, tolls), family.things)
            for cover in corners + [random_cover(rng, family)]:
                tight = all(lot in tight_lots(family, cover) for lot, _ in packing(family, tolls))
                full = all(used[e] == tolls[e] for e in cover.support())
                self.assertIs(cover.dot(tolls) == cap(family, tolls), tight and full)
        self.assertEqual(cheapest_corner(ring(3), [1, 1, 1]), Row([1, 1, 1], 2))
        self.assertEqual(cheapest_corner(ring(3), [0, 0, 0]), Row([0, 1, 1]))
        self.assertEqual(cheapest_corner(ring(3), Row([1, 1, 2], 7)), Row([1, 1, 1], 2))

    def test_bound_of(self):
        for number, bound in BOUNDS.items():
            self.assert_same(bound_of(number), bound)
        for wrong in NOT_NUMBERS + [0, 8, -1]:
            self.assert_error(BadNumber("number"), bound_of, wrong)

    def test_greatest_bottom(self):
        rng = random.Random(115)
        most = 0
        for _ in range(60):
            lots = [rng.sample(range(7), rng.randint(2, 5)) for _ in range(rng.randint(5, 40))]
            family = Family(7, lots)
            for row in corners_of(family):
                self.assertTrue(is_corner(family, row))
                most = max(most, row.bottom)
        self.assertLessEqual(most, 32)
        self.assertGreater(most, 4)


class SizesTest(Case):
    """Point 44."""

    def test_too_many(self):
        eight = ring(8)
        for call in (corners_of, whole_corners, broken_corners):
            self.assert_error(TooMany(7), call, eight)
        self.assert_error(TooMany(7), cheapest_corner, eight, [1] * 8)
        self.assert_error(TooMany(7), mix_of_corners, eight, [1] * 8)
        self.assert_error(BadRow(2), cheapest_corner, eight, [1, 1, -1])
        self.assert_error(OtherSize(3), cheapest_corner, eight, [1, 1, 1])
        self.assert_error(OtherSize(3), mix_of_corners, eight, [1, 1, 1])
        self.assert_error(NotCover((0, 1)), mix_of_corners, eight, [0] * 8)

    def test_useless_things(self):
        lots = [[10, 20], [20, 31], [31, 42], [42, 53], [53, 54], [54, 59], [59, 10]]
        family = Family(60, lots)
        found = corners_of(family)
        small = corners_of(ring(7))
        self.assertEqual(len(found), len(small))
        for row, other in zip(found, small):
            self.assertEqual([row[e] for e in (10, 20, 31, 42, 53, 54, 59)], list(other))
            self.assertEqual(row.total(), other.total())
            self.assertEqual(len(row), 60)
        self.assertEqual(len(whole_corners(family)), len(whole_corners(ring(7))))
        self.assertEqual(cheapest_corner(family, [1] * 60).total(), (7, 2))
        self.assertEqual(mix_of_corners(family, broken_corners(family)[0])[0][1], (1, 1))

    def test_rows_of_three(self):
        family = Family(3, [(0, 1)])
        for call in (cheapest_corner, mix_of_corners, mix_under, stretch):
            self.assert_row_errors(3, lambda row, call=call: call(family, row))


class MixesTest(Case):
    """Points 37 and 38."""

    def test_example(self):
        half = Row((1, 1, 1), 2)
        self.assertEqual([mix_under(ring(3), half), stretch(ring(3), half)], [None, (4, 3)])

    def check_mix(self, mix, rows, row):
        """Check weights above zero of sum 1, and that the mix of the rows is at most the row."""
        self.assertIs(type(mix), tuple)
        self.assertTrue(all(type(entry) is tuple and len(entry) == 2 for entry in mix))
        self.assertTrue(all(is_amount(weight) and weight[0] > 0 for _, weight in mix))
        self.assertEqual(sum(fraction(weight) for _, weight in mix), 1)
        for e in range(len(row)):
            value = sum(fraction(weight) * one[e] for (_, weight), one in zip(mix, rows))
            self.assertLessEqual(value, fraction(row[e]))

    def test_mix_under(self):
        rng = random.Random(121)
        seen = {True: 0, False: 0}
        for family in some_families(122, 200, most_things=5):
            row = random_row_of(rng, family.things, 3, 3)
            found = mix_under(family, row)
            breaking = [x for x in corners_of(family) if fraction(x.dot(row)) < 1]
            self.assertIs(found is None, bool(breaking))
            seen[found is None] += 1
            if found is not None:
                lots = [lot for lot, _ in found]
                self.assertEqual(lots, sorted(set(lots)))
                self.assertTrue(all(lot in family for lot in lots))
                self.check_mix(found, [[int(e in lot) for e in range(family.things)] for lot in lots], row)
            least = stretch(family, row)
            total = fraction(cap(family, row))
            if total == 0:
                self.assertIsNone(least)
            else:
                self.assert_same(least, amount_of(1 / total))
                self.assertIsNotNone(mix_under(family, row.scaled(least)))
                self.assertIsNone(mix_under(family, row.scaled(least).scaled((99, 100))))
        self.assertGreater(min(seen.values()), 20)

    def test_mix_of_corners(self):
        rng = random.Random(123)
        for family in some_families(124, 100, most_things=5):
            corners = corners_of(family)
            for cover in [random_cover(rng, family), rng.choice(corners), Row.ones(family.things)]:
                mix = mix_of_corners(family, cover)
                places = [corners.index(row) for row, _ in mix]
                self.assertEqual(places, sorted(set(places)))
                self.check_mix(mix, [fractions(row) for row, _ in mix], cover)
        corner = Row([1, 1, 1], 2)
        self.assertEqual(mix_of_corners(ring(3), corner), ((corner, (1, 1)),))

    def test_great_families(self):
        rng = random.Random(125)
        family = Family(60, [rng.sample(range(60), rng.randint(2, 9)) for _ in range(200)])
        row = Row([rng.randint(1, 10 ** 40) for _ in range(60)], 10 ** 40)
        least = stretch(family, row)
        mix = mix_under(family, row.scaled(least))
        lots = [[int(e in lot) for e in range(60)] for lot, _ in mix]
        self.check_mix(mix, lots, row.scaled(least))
        seven = votes(4, 7)
        cover = Row([rng.randint(10 ** 39, 10 ** 40) for _ in range(7)], 10 ** 39)
        mix = mix_of_corners(seven, cover)
        self.check_mix(mix, [fractions(row) for row, _ in mix], cover)


class JoinedTest(Case):
    """Point 43."""

    def test_side_by_side(self):
        rng = random.Random(131)
        for _ in range(30):
            one, two = random_family(rng, rng.randint(1, 3), 3), random_family(rng, rng.randint(1, 3), 3)
            first = [list(row) for row in corners_of(one)]
            second = [list(row) for row in corners_of(two)]
            empty_one, empty_two = [(0, 1)] * one.things, [(0, 1)] * two.things
            self.assertEqual([list(row) for row in corners_of(beside(one, two))],
                             [x + y for x in first for y in second])
            rows = [x + empty_two for x in first] + [empty_one + y for y in second]
            self.assertEqual(sorted(list(row) for row in corners_of(both(one, two))), sorted(rows))

    def test_or_and_merged(self):
        rng = random.Random(132)
        for _ in range(60):
            things = rng.randint(1, 5)
            one, two = random_family(rng, things), random_family(rng, things)
            row = random_cover(rng, one)
            self.assertIs(is_cover(one | two, row), is_cover(two, row))
            size = rng.randint(1, 4)
            names = [rng.randrange(size) for _ in range(things)]
            made = merged(one, names, size)
            cover = random_row_of(rng, size, 3, 3)
            spread = Row.of_amounts([cover[name] for name in names])
            if is_cover(made, cover):
                self.assertTrue(is_cover(one, spread))
            if all(len({names[e] for e in lot}) == len(lot) for lot in one.lots):
                self.assertIs(is_cover(made, cover), is_cover(one, spread))

    def test_short_of_covers(self):
        rng = random.Random(133)
        for family in some_families(134, 50):
            cover = random_cover(rng, family)
            self.assertGreaterEqual(short_of(family.lots, fractions(cover)), 1)


if __name__ == "__main__":
    unittest.main()
