"""Points 94, 96 to 100 and 104: the two kinds of least breaks."""

import random
import unittest
from fractions import Fraction

from shortbynarrow.breaks import is_least_break
from shortbynarrow.cores import Break, EvenBreak, FanBreak, hub_of, read_break
from shortbynarrow.corners import broken_corners
from shortbynarrow.covers import tight_lots
from shortbynarrow.errors import BadFamily, TooMany
from shortbynarrow.families import Family
from shortbynarrow.rows import Row
from shortbynarrow.shapes import fan, four_points, ring, seven_lines, votes
from shortbynarrow.strains import strain
from tests.brute import (
    all_families, amount_of, fraction, fractions, rich_families, solution_of, some_families, useless_beside,
)
from tests.cases import Case

FANS = [fan(m) for m in range(3, 8)] + [ring(3), votes(2, 3)]
EVENS = [ring(5), ring(7), seven_lines(), ~ring(5), ~ring(7)]


def find_breaks():
    """Return least breaks of both kinds, also with other names and with useless things."""
    rng = random.Random(1801)
    found = FANS + EVENS
    for family in FANS + EVENS:
        for things in (family.things, 10, 60):
            found = found + [useless_beside(family, rng.sample(range(things), family.things), things)]
    made = [family for family in all_families(4) + rich_families(1802, 150) if is_least_break(family)]
    return found + made


class BreakTest(Case):
    """Points 94, 97 and 98."""

    def test_example(self):
        one, two = read_break(fan(4)), read_break(ring(5))
        self.assertEqual(
            [one.KIND, one.hub, list(one.x), one.ratio(), two.KIND, two.small, two.wide, two.core, two.excess()],
            ["fan", 0, [(2, 3), (1, 3), (1, 3), (1, 3)], (9, 7), "even", 2, 3,
             ((0, 1), (0, 4), (1, 2), (2, 3), (3, 4)), 1])

    def test_all_breaks(self):
        kinds = {"fan": 0, "even": 0}
        for family in find_breaks():
            found = read_break(family)
            kinds[found.KIND] += 1
            self.assertIs(type(found), FanBreak if found.KIND == "fan" else EvenBreak)
            self.assertIsInstance(found, Break)
            plain = Break(family)
            self.assertEqual((plain.KIND, Break.KIND, FanBreak.KIND, EvenBreak.KIND), ("", "", "fan", "even"))
            for one in (plain, found):
                self.assertEqual((one.family, one.size), (family, len(family.useful)))
                self.assertEqual(([one.x], [one.y]), (broken_corners(family), broken_corners(~family)))
                self.assertTrue(type(one.x) is Row and type(one.y) is Row)
                self.assert_same(one.ratio(), strain(family))
            for row in (plain.x, plain.y):
                self.assertTrue(all(0 < fraction(row[e]) < 1 for e in family.useful))
            self.assertEqual(fraction(plain.ratio()), 1 / fraction(plain.x.dot(plain.y)))
            if found.KIND == "fan":
                self.check_fan(family, found)
            else:
                self.check_even(family, found)
        self.assertGreater(min(kinds.values()), 15)

    def check_fan(self, family, found):
        """Check what point 97 tells of a fan break."""
        m, hub = found.size, found.hub
        self.assert_same(hub, hub_of(family))
        expected = [Fraction(m - 2, m - 1) if e == hub else Fraction(int(e in family.useful), m - 1)
                    for e in range(family.things)]
        self.assertEqual(fractions(found.x), expected)
        self.assertEqual(found.y, found.x)
        self.assertEqual(fraction(found.ratio()), Fraction((m - 1) ** 2, m * m - 3 * m + 3))
        self.assert_error(BadFamily(0), EvenBreak, family)
        self.assertEqual(FanBreak(family).hub, hub)
        other = read_break(~family)
        self.assertEqual((other.KIND, other.hub, other.x, other.y), ("fan", hub, found.y, found.x))

    def check_even(self, family, found):
        """Check what points 97 and 98 tell of an even break."""
        m, r, s = found.size, found.small, found.wide
        self.assertEqual((r, s), (family.least_size(), (~family).least_size()))
        self.assertEqual(found.x, Row.of_set(family.useful, family.things).scaled((1, r)))
        self.assertEqual(found.y, Row.of_set(family.useful, family.things).scaled((1, s)))
        self.assertEqual(fraction(found.ratio()), Fraction(r * s, m))
        self.assert_same(found.excess(), r * s - m)
        self.assertTrue(m + 1 <= r * s <= m - 1 + min(r, s))
        self.assert_same(found.core, tuple(lot for lot in family if len(lot) == r))
        self.assertEqual(len(found.core), m)
        self.assertTrue(all(sum(e in lot for lot in found.core) == r for e in family.useful))
        self.assertEqual(found.core, tight_lots(family, found.x))
        rows = [[int(e in lot) for e in family.useful] for lot in found.core]
        self.assertEqual(solution_of(rows, [1] * m, m), [Fraction(1, r)] * m)
        self.assert_error(BadFamily(0), FanBreak, family)
        self.assertEqual(EvenBreak(family).core, found.core)
        other = read_break(~family)
        self.assertEqual((other.KIND, other.small, other.wide), ("even", s, r))
        self.assertEqual((other.x, other.y, other.excess()), (found.y, found.x, found.excess()))

    def test_shapes(self):
        for m in range(3, 8):
            self.assertEqual((read_break(fan(m)).KIND, read_break(fan(m)).hub), ("fan", 0))
        self.assertEqual(read_break(ring(3)).KIND, "fan")
        for n in (5, 7):
            one = read_break(ring(n))
            self.assertEqual((one.KIND, one.small, one.wide, one.excess()), ("even", 2, (n + 1) // 2, 1))
            self.assert_same(one.ratio(), (n + 1, n))
        lines = read_break(seven_lines())
        self.assertEqual((lines.KIND, lines.small, lines.wide, lines.size, lines.excess()), ("even", 3, 3, 7, 2))
        self.assertEqual(lines.core, seven_lines().lots)
        self.assert_same(lines.ratio(), (9, 7))

    def test_methods_of_their_own(self):
        for kind in (Break, FanBreak, EvenBreak):
            self.assertIn("ratio", vars(kind))
            self.assertIn("KIND", vars(kind))
        self.assertIn("excess", vars(EvenBreak))
        self.assertTrue(issubclass(FanBreak, Break) and issubclass(EvenBreak, Break))

    def test_no_least_breaks(self):
        others = [Family.single(), ring(4), ring(6), four_points(), votes(2, 4), votes(4, 7),
                  Family(4, [(0, 1), (0, 2), (0, 3), (1, 2)])]
        others += [family for family in some_families(1811, 40, 6) + rich_families(1812, 40)
                   if not is_least_break(family)]
        for family in others:
            for call in (Break, FanBreak, EvenBreak, read_break):
                self.assert_error(BadFamily(0), call, family)


class HubTest(Case):
    """Point 96."""

    def hub_by_definition(self, family):
        """Return the least hub, None if there is none."""
        useful = family.useful
        for hub in useful if len(useful) >= 3 else ():
            lots = {frozenset((hub, e)) for e in useful if e != hub} | {frozenset(useful) - {hub}}
            if {frozenset(lot) for lot in family} == lots:
                return hub
        return None

    def test_hub_of(self):
        for family in all_families(4) + some_families(1821, 60, 6) + find_breaks():
            self.assert_same(hub_of(family), self.hub_by_definition(family))

    def test_edges(self):
        self.assertEqual(hub_of(ring(3)), 0)
        self.assertEqual(hub_of(Family(6, [(2, 5), (2, 3), (3, 5)])), 2)
        self.assertEqual(hub_of(Family(5, [(3, 0), (3, 1), (3, 4), (0, 1, 4)])), 3)
        self.assertIsNone(hub_of(Family(4, [(0, 1), (0, 2), (0, 3)])))
        self.assertIsNone(hub_of(Family(4, [(0, 1), (0, 2), (0, 3), (1, 2)])))
        self.assertIsNone(hub_of(ring(4)))
        self.assertIsNone(hub_of(Family(2, [(0,), (1,)])))
        self.assertIsNone(hub_of(votes(2, 2)))
        self.assertIsNone(hub_of(Family.single()))
        self.assertEqual(hub_of(fan(60)), 0)
        self.assertEqual(hub_of(Family(60, [(59, e) for e in range(40)] + [tuple(range(40))])), 59)
        self.assertIsNone(hub_of(Family(60, [(59, e) for e in range(40)] + [tuple(range(39))])))
        self.assertIsNone(hub_of(ring(60)))
        self.assertIsNone(hub_of(votes(2, 20)))


class SizesTest(Case):
    """Point 104."""

    def test_too_many(self):
        for call in (Break, FanBreak, EvenBreak, read_break):
            for family in (ring(8), fan(8), ring(9), votes(1, 8), Family(60, [tuple(range(1, 9))])):
                self.assert_error(TooMany(7), call, family)

    def test_useless_things(self):
        places = [5, 6, 17, 28, 39, 50, 59]
        found = read_break(useless_beside(seven_lines(), places, 60))
        self.assertEqual((found.size, found.small, found.wide), (7, 3, 3))
        self.assertEqual(found.core, useless_beside(seven_lines(), places, 60).lots)
        self.assertEqual(found.x.support(), tuple(places))
        self.assertEqual(found.ratio(), amount_of(Fraction(9, 7)))


if __name__ == "__main__":
    unittest.main()
