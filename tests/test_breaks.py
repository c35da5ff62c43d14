"""Points 91 to 93, 95, 100 and 102 to 104: least breaks and how they are found."""

import random
import unittest
from itertools import permutations

from shortbynarrow.breaks import breaking_singles, find_break, is_least_break
from shortbynarrow.corners import broken_corners
from shortbynarrow.cores import hub_of
from shortbynarrow.errors import TooMany
from shortbynarrow.families import Family
from shortbynarrow.parts import part, parts_of, single_parts
from shortbynarrow.rows import Row
from shortbynarrow.shapes import fan, four_points, ring, seven_lines, votes
from shortbynarrow.strains import is_calm, strain
from tests.brute import all_families, fraction, random_family, rich_families, some_families, useless_beside
from tests.cases import Case

S = Family.single()
BREAKS = [fan(3), fan(4), fan(5), fan(6), fan(7), ring(5), ring(7), seven_lines()]


def least_break_by_definition(family):
    """Tell whether the family is not calm and all its proper parts are."""
    proper = [small for left, kept, small in parts_of(family) if left or kept]
    return not is_calm(family) and all(is_calm(small) for small in proper)


def pool(seed):
    """Return families of several kinds, least breaks among them, with useless things too."""
    rng = random.Random(seed)
    found = all_families(3) + some_families(seed, 30, 6) + rich_families(seed + 1, 80)
    found += BREAKS + [~family for family in BREAKS]
    for family in BREAKS + rich_families(seed + 2, 10, 3, 6):
        places = rng.sample(range(9), family.things)
        found.append(useless_beside(family, places, 9))
    return found


class LeastBreakTest(Case):
    """Points 91, 92 and 95."""

    def test_is_least_break(self):
        seen = {True: 0, False: 0}
        for family in pool(1701):
            found = is_least_break(family)
            self.assertIs(found, not is_calm(family) and all(is_calm(s) for _, _, s in single_parts(family)))
            if len(family.useful) <= 5:
                self.assertIs(found, least_break_by_definition(family))
            seen[found] += 1
            sides = [broken_corners(family), broken_corners(~family)]
            full = all(set(row.support()) >= set(family.useful) for rows in sides for row in rows)
            self.assertIs(found, bool(sides[0]) and full)
            self.assertIs(is_least_break(~family), found)
        self.assertGreater(min(seen.values()), 20)

    def test_all_families_of_four_things(self):
        found = [family for family in all_families(4) if is_least_break(family)]
        for family in found:
            self.assertTrue(least_break_by_definition(family))
        # four places for the hub of a fan of four things, four places for a ring of three
        self.assertEqual(len(found), 8)

    def test_shapes(self):
        for m in range(3, 8):
            self.assertIs(is_least_break(fan(m)), True)
            self.assertIs(is_least_break(ring(m)), m % 2 == 1)
            self.assertIs(is_calm(ring(m)), m % 2 == 0)
        for n in (3, 5, 7):
            self.assertEqual(fraction(strain(ring(n))) * n, n + 1)
        self.assertIs(is_least_break(seven_lines()), True)
        for n in range(1, 8):
            for k in range(1, n + 1):
                self.assertIs(is_least_break(votes(k, n)), (k, n) == (2, 3))
        for family in (four_points(), ~four_points(), S):
            self.assertIs(is_least_break(family), False)


class FindBreakTest(Case):
    """Points 92 and 93."""

    def test_example(self):
        family = Family(4, [(0, 1), (0, 2), (0, 3), (1, 2)])
        left, kept, small = find_break(family)
        self.assertEqual([left, kept, small.lots, breaking_singles(family)],
                         [(3,), (), ((0, 1), (0, 2), (1, 2)), [(3, "left", (4, 3))]])

    def steps_by_definition(self, family):
        """Return the things left out and held on the way, and the family at the end."""
        left, kept = [], []
        while True:
            for thing, word, small in single_parts(family):
                if strain(small) != (1, 1):
                    (kept if word == "held" else left).append(thing)
                    family = small
                    break
            else:
                return tuple(sorted(left)), tuple(sorted(kept)), family

    def test_find_break(self):
        ways = {"left": 0, "kept": 0, "none": 0}
        for family in pool(1711):
            found = find_break(family)
            if is_calm(family):
                self.assertIsNone(found)
                continue
            self.assertIs(type(found), tuple)
            left, kept, small = found
            self.assertIs(type(small), Family)
            expected = self.steps_by_definition(family)
            self.assert_same((left, kept), expected[:2])
            self.assertEqual(small, expected[2])
            self.assertEqual(small, part(family, left, kept))
            self.assertTrue(is_least_break(small))
            self.assertEqual(small.things, family.things)
            self.assertLessEqual(fraction(strain(small)), fraction(strain(family)))
            ways["left"] += len(left) > 1
            ways["kept"] += len(kept) > 1
            ways["none"] += not left and not kept
        self.assertGreater(min(ways.values()), 5)

    def test_breaking_singles(self):
        for family in pool(1712):
            found = breaking_singles(family)
            self.assertIs(type(found), list)
            expected = [(thing, word, strain(small)) for thing, word, small in single_parts(family)
                        if strain(small) != (1, 1)]
            self.assert_same(found, expected)
            if found:
                self.assertIs(is_least_break(family), False)
            else:
                self.assertIs(is_least_break(family), not is_calm(family))

    def test_useless_things(self):
        places = [4, 11, 12, 26, 37, 48, 59]
        family = useless_beside(votes(4, 7), places, 60)
        left, kept, small = find_break(family)
        low = find_break(votes(4, 7))
        self.assertEqual((left, kept), (tuple(places[e] for e in low[0]), tuple(places[e] for e in low[1])))
        self.assertEqual(small, useless_beside(low[2], places, 60))
        self.assertEqual([(places[e], word, value) for e, word, value in breaking_singles(votes(4, 7))],
                         breaking_singles(family))


class PutInTest(Case):
    """Points 102 and 103."""

    def test_put_in(self):
        rng = random.Random(1721)
        ones = [S, Family(2, [(1,)]), Family(3, [(0,)])]
        seen = {True: 0, False: 0}
        outers = [ring(3), fan(4), ring(5), Family(2, [(1,)]), S, Family(4, ring(3).lots), votes(1, 2)]
        while min(seen.values()) < 20:
            outer = rng.choice(outers)
            inners = ones + [ring(3), fan(4), random_family(rng, rng.randint(1, 3), 3)]
            families = [rng.choice(ones if rng.random() < 0.7 else inners) for _ in range(outer.things)]
            made = outer(families)
            if len(made.useful) > 7:
                continue
            plain = all(len(families[e].lots) == 1 and len(families[e].lots[0]) == 1 for e in outer.useful)
            first = is_least_break(outer) and plain
            second = len(outer.useful) == 1 and is_least_break(families[outer.useful[0]])
            self.assertIs(is_least_break(made), first or second)
            seen[first or second] += 1

    def test_couples(self):
        rng = random.Random(1722)
        seen = {True: 0, False: 0}
        families = [Family(n, [rng.sample(range(n), 2) for _ in range(rng.randint(2, n + 2))])
                    for n in range(3, 8) for _ in range(25)]
        for n in (3, 5, 7):
            for _ in range(8):
                order = rng.sample(range(8), n)
                families.append(Family(8, [(order[k], order[(k + 1) % n]) for k in range(n)]))
        for family in families:
            expected = len(family.useful) % 2 == 1 and len(family.useful) >= 3 and self.is_ring(family)
            self.assertIs(is_least_break(family), expected)
            seen[expected] += 1
        self.assertGreater(min(seen.values()), 20)

    def is_ring(self, family):
        """Tell whether the lots are just the pairs of neighbours when the useful things stand in a ring."""
        if len(family.lots) != len(family.useful):
            return False
        first, *others = family.useful
        for order in permutations(others):
            ring_of = (first, *order)
            pairs = {tuple(sorted((one, ring_of[k - 1]))) for k, one in enumerate(ring_of)}
            if pairs == set(family.lots):
                return True
        return False

    def test_lots_of_two_things(self):
        for family in pool(1723):
            pairs = [lot for lot in family if len(lot) == 2]
            if not pairs or not is_least_break(family):
                continue
            small = Family(family.things, pairs)
            if self.is_ring(small) and small.useful == family.useful:
                self.assertEqual(len(family.useful) % 2, 1)
            else:
                hub = hub_of(family)
                self.assertIsNotNone(hub)
                others = [e for e in family.useful if e != hub]
                self.assertEqual(pairs, sorted(tuple(sorted((hub, e))) for e in others))


class SizesTest(Case):
    """Point 104."""

    def test_too_many(self):
        for call in (is_least_break, find_break, breaking_singles):
            self.assert_error(TooMany(7), call, ring(8))
            self.assert_error(TooMany(7), call, Family(60, [tuple(range(60))]))
            self.assert_error(TooMany(7), call, Family(9, [(0, e) for e in range(1, 8)]))
        self.assertEqual(breaking_singles(S), [])
        self.assertIsNone(find_break(S))
        self.assertEqual(find_break(ring(3))[:2], ((), ()))
        self.assertEqual(broken_corners(find_break(ring(7))[2]), [Row([1] * 7, 2)])


if __name__ == "__main__":
    unittest.main()
