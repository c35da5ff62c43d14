"""Points 1, 6, 7, 12 and 13: families, their blockers and their operators."""

import random
import unittest

from shortbynarrow.blockers import blocker, private_lot, quiet_sets, side_of
from shortbynarrow.errors import (
    BadFamily, BadLots, BadNumber, BadSet, BadThing, EmptyLot, Lost, NoLots, OtherSize,
)
from shortbynarrow.families import Family
from tests.brute import (
    NOT_LISTS, NOT_NUMBERS, all_families, blocker_of, least_sets, random_family, some_families,
    subsets,
)
from tests.cases import Case


class MakingTest(Case):
    """Point 6."""

    def test_example(self):
        family = Family(4, [(2, 1), (0, 1), (0, 2), (0, 3), (0, 1, 3)])
        self.assertEqual(
            (family.lots, (~family).lots, (family - 0).lots, (family // 3).lots),
            (((0, 1), (0, 2), (0, 3), (1, 2)), ((0, 1), (0, 2), (1, 2, 3)), ((1, 2),), ((0,), (1, 2))))

    def test_keeps_the_least(self):
        lots = [[1, 0], (0, 1), [2, 1, 0], (3,), [3, 4]]
        family = Family(6, lots)
        self.assert_same(family.lots, ((0, 1), (3,)))
        self.assert_same(family.things, 6)
        self.assert_same(family.useful, (0, 1, 3))
        lots[0].append(5)
        lots.append([5])
        self.assert_same(family.lots, ((0, 1), (3,)))
        self.assertEqual(Family(6, ((0, 1), (3,))), family)

    def test_against_definition(self):
        rng = random.Random(2)
        for _ in range(200):
            things = rng.randint(1, 6)
            lots = [rng.sample(range(things), rng.randint(1, things)) for _ in range(rng.randint(1, 9))]
            before = [list(lot) for lot in lots]
            family = Family(things, lots)
            self.assertEqual(lots, before)
            self.assert_same(family.lots, least_sets(lots))
            self.assert_same(family.useful, tuple(sorted({e for lot in family.lots for e in lot})))
            self.assert_same(family.least_size(), min(len(lot) for lot in family.lots))
            self.assert_same(family.sizes(), tuple(sorted({len(lot) for lot in family.lots})))
            for thing in range(things):
                self.assert_same(family.lots_at(thing), tuple(a for a in family.lots if thing in a))
            for some in subsets(range(things)):
                expected = any(set(lot) <= set(some) for lot in family.lots)
                self.assertIs(family.holds(some), expected)
                self.assertIs(family.holds(list(reversed(some))), expected)

    def test_edges(self):
        self.assertEqual(Family(1, [[0]]).lots, ((0,),))
        self.assertEqual(Family(60, [[59], [0]]).lots, ((0,), (59,)))
        self.assertEqual(Family.single(), Family(1, [(0,)]))
        self.assertIs(type(Family.single()), Family)
        self.assert_same(Family.least_of([[1, 2], [2]]), ((2,),))
        self.assert_same(Family.least_of([]), ())

    def test_wrong_families(self):
        for wrong in NOT_NUMBERS + [0, 61, -1, 10 ** 40]:
            self.assert_error(BadNumber("things"), Family, wrong, "no list")
        for wrong in NOT_LISTS:
            self.assert_error(BadLots(-1), Family, 3, wrong)
        for wrong in NOT_LISTS + [[3], [-1], [0, 0], [True], ["0"], [0, None]]:
            self.assert_error(BadLots(0), Family, 3, [wrong])
            self.assert_error(BadLots(2), Family, 3, ([0, 1], (0,), wrong, ()))
        self.assert_error(EmptyLot(1), Family, 3, [[0], (), [9]])
        self.assert_error(EmptyLot(0), Family, 3, [[]])
        self.assert_error(NoLots(), Family, 3, [])
        self.assert_error(NoLots(), Family, 3, ())

    def test_operators_of_lists(self):
        family = Family(4, [(0, 1), (2,)])
        self.assertEqual(len(family), 2)
        self.assertEqual(list(family), [(0, 1), (2,)])
        # over and over again, and two at a time
        self.assertEqual([list(family), tuple(family), [*family]], [[(0, 1), (2,)], ((0, 1), (2,)), list(family)])
        self.assertEqual(list(zip(family, family)), [((0, 1), (0, 1)), ((2,), (2,))])
        self.assertEqual([list(~family), list(family)], [[(0, 2), (1, 2)], [(0, 1), (2,)]])
        steps = iter(family)
        self.assertEqual([next(steps), next(steps), next(steps, None)], [(0, 1), (2,), None])
        self.assertIs((0, 1) in family, True)
        for other in [[0, 1], (1, 0), (0,), (), None, 2, (0, 1, 2), "01", ([0], 1)]:
            self.assertIs(other in family, False)
        self.assertTrue(family == Family(4, [(2,), (1, 0)]))
        self.assertTrue(family != Family(5, [(0, 1), (2,)]))
        self.assertTrue(family != Family(4, [(0, 1)]))
        for other in [family.lots, list(family.lots), None, 4]:
            self.assertFalse(family == other)

    def test_wrong_arguments(self):
        family = Family(4, [(0, 1), (2,)])
        for wrong in NOT_LISTS:
            self.assert_error(BadSet(-1), family.holds, wrong)
        self.assert_error(BadSet(1), family.holds, [1, 4])
        self.assert_error(BadSet(1), family.holds, [1, 1])
        for wrong in NOT_NUMBERS + [-1, 4]:
            self.assert_error(BadThing(wrong), family.lots_at, wrong)
            self.assert_error(BadThing(wrong), lambda: family - wrong)
            self.assert_error(BadThing(wrong), lambda: family // wrong)


class PartsAndJoinsTest(Case):
    """Points 8, 9 and 13, as far as operators go."""

    def test_one_thing(self):
        for family in some_families(7, 150):
            for e in range(family.things):
                left = least_sets(a for a in family.lots if e not in a)
                kept = least_sets(set(a) - {e} for a in family.lots)
                if left:
                    self.assert_same((family - e).lots, left)
                    self.assertEqual((family - e).things, family.things)
                    self.assertEqual(~(family - e), ~family // e)
                else:
                    self.assert_error(Lost(e, "left"), lambda: family - e)
                    self.assert_error(Lost(e, "held"), lambda: ~family // e)
                if kept != ((),):
                    self.assert_same((family // e).lots, kept)
                    self.assertEqual((family // e).things, family.things)
                    self.assertEqual(~(family // e), ~family - e)
                else:
                    self.assert_error(Lost(e, "held"), lambda: family // e)
                    self.assert_error(Lost(e, "left"), lambda: ~family - e)

    def test_or_and(self):
        rng = random.Random(8)
        for _ in range(150):
            things = rng.randint(1, 5)
            one, two = random_family(rng, things), random_family(rng, things)
            self.assert_same((one | two).lots, least_sets(one.lots + two.lots))
            unions = [set(a) | set(b) for a in one.lots for b in two.lots]
            self.assert_same((one & two).lots, least_sets(unions))
            self.assertEqual(~(one | two), ~one & ~two)
            self.assertEqual(~(one & two), ~one | ~two)
        self.assert_error(OtherSize(2), lambda: Family(3, [[0]]) | Family(2, [[0]]))
        self.assert_error(OtherSize(2), lambda: Family(3, [[0]]) & Family(2, [[0]]))


class BlockersTest(Case):
    """Points 7 and 12."""

    def test_all_small_families(self):
        for things in (1, 2, 3, 4):
            for family in all_families(things):
                self.check_blocker(family)

    def test_greater_families(self):
        for family in some_families(9, 60, most_things=7, most_lots=12):
            self.check_blocker(family)

    def check_blocker(self, family):
        """Check the facts of point 12 of one family."""
        things, other = family.things, ~family
        self.assert_same(other.lots, blocker_of(family.lots, things))
        self.assertEqual(blocker(family), other)
        self.assertEqual(~other, family)
        self.assertEqual(other.things, things)
        self.assertEqual(other.useful, family.useful)
        quiet = []
        for some in subsets(range(things)):
            rest = [e for e in range(things) if e not in some]
            self.assertNotEqual(family.holds(some), other.holds(rest))
            self.assertEqual(side_of(family, some), "lot" if family.holds(some) else "block")
            if not family.holds(some):
                quiet.append(set(some))
        greatest = sorted(tuple(sorted(s)) for s in quiet if not any(s < t for t in quiet))
        self.assert_same(list(quiet_sets(family)), greatest)
        for lot in family.lots:
            for thing in lot:
                fits = [b for b in other.lots if set(b) & set(lot) == {thing}]
                self.assert_same(private_lot(family, lot, thing), fits[0])

    def test_quiet_sets_is_a_generator(self):
        found = quiet_sets(Family(3, [[0, 1]]))
        self.assertIs(iter(found), found)
        self.assertEqual(next(found), (0, 2))
        self.assertEqual(list(found), [(1, 2)])
        self.assertEqual(list(quiet_sets(Family.single())), [()])

    def test_private_lot_errors(self):
        family = Family(4, [(0, 1), (1, 2)])
        self.assertEqual(private_lot(family, [2, 1], 2), (0, 2))
        for wrong in NOT_LISTS + [[0], [0, 2], [0, 1, 1], [], [0, True], [0, 4], (0, 1, 2)]:
            self.assert_error(BadLots(-1), private_lot, family, wrong, 7)
        for wrong in [2, -1, 4, True, None, "0"]:
            self.assert_error(BadThing(wrong), private_lot, family, (0, 1), wrong)
        self.assert_error(BadSet(1), side_of, family, [0, 0])
        self.assert_error(BadSet(-1), side_of, family, 0)

    def test_great_families(self):
        wide = Family(60, [list(range(k, k + 20)) for k in (0, 20, 40)])
        self.assertEqual(len(~wide), 8000)
        rows = Family(60, [[e for e in range(60) if e != k] for k in range(60)])
        self.assertEqual(len(~rows), 1770)
        thin = Family(60, [list(range(k, 60, 12)) for k in range(2)])
        self.assertEqual(len(~thin), 25)
        self.assertEqual(~~thin, thin)
        rng = random.Random(4)
        family = Family(14, [rng.sample(range(14), rng.randint(4, 8)) for _ in range(200)])
        self.assertEqual(~~family, family)
        self.assertEqual(~(family - 3), (~family) // 3)
        self.assertEqual(Family(60, [[e] for e in range(60)]).useful, tuple(range(60)))


class CallTest(Case):
    """Families put in by a call: its errors."""

    def test_errors(self):
        family, one = Family(2, [[0, 1]]), Family.single()
        for wrong in NOT_LISTS + [one]:
            self.assert_error(BadFamily(-1), family, wrong)
        self.assert_error(BadFamily(1), family, [one, None, 3])
        self.assert_error(BadFamily(2), family, [one, one, [[0]]])
        self.assert_error(OtherSize(3), family, [one, one, one])
        self.assert_error(OtherSize(0), family, ())
        wide = Family(60, [[0]])
        self.assert_error(BadNumber("things"), family, [wide, one])
        self.assert_error(OtherSize(1), family, [wide])
        self.assertEqual(family((Family(59, [[1]]), one)).lots, ((1, 59),))


if __name__ == "__main__":
    unittest.main()
