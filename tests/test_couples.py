"""Points 106, 109 and 110: couples, odd rings, cliques, quiet sets, hueings, joined families."""

import random
import unittest
from itertools import combinations

from shortbynarrow.couples import cliques, greatest_quiet, hueing, is_couples, joined, odd_ring
from shortbynarrow.errors import BadFamily, BadNumber, NotCouples
from shortbynarrow.families import Family
from shortbynarrow.hues import couple_price, couple_strain, half_row, hues
from shortbynarrow.shapes import block, fan, four_points, ring, seven_lines, votes
from shortbynarrow.strains import is_calm, strain
from tests.brute import all_families, fraction, rich_families, some_families, subsets, useless_beside
from tests.cases import Case


def random_couples(rng, things, many):
    """Return a family of so many random couples, or of all there are."""
    pairs = list(combinations(range(things), 2))
    return Family(things, rng.sample(pairs, min(many, len(pairs))))


def some_couples(seed, count, most_things=7):
    """Return random families of couples; some things may be useless."""
    rng = random.Random(seed)
    return [random_couples(rng, things, rng.randint(1, 2 * things))
            for things in [rng.randint(2, most_things) for _ in range(count)]]


def odd_rings_by_definition(family):
    """Return all odd rings of the least length, each written from its least thing on."""
    for size in range(3, family.things + 1, 2):
        paths = [(e,) for e in range(family.things)]
        for _ in range(size - 1):
            paths = [path + (e,) for path in paths for e in range(path[0] + 1, family.things)
                     if e not in path and tuple(sorted([path[-1], e])) in family]
        found = [path for path in paths if path[1] < path[-1] and (path[0], path[-1]) in family]
        if found:
            return sorted(found)
    return []


def is_clique(family, things):
    """Tell whether each two of two or more things are a lot."""
    return len(things) >= 2 and all(pair in family for pair in combinations(things, 2))


def is_hueing(family, sets):
    """Tell whether the sets are quiet, not empty, and have each useful thing once and no other."""
    return (all(not family.holds(one) and one == tuple(sorted(one)) and one for one in sets)
            and sorted(e for one in sets for e in one) == list(family.useful))


def least_hueing(family):
    """Return the least number of quiet sets that the useful things can be parted into."""
    useful = family.useful
    best = len(useful)

    def place(at, parts):
        nonlocal best
        if len(parts) >= best:
            return
        if at == len(useful):
            best = len(parts)
            return
        for k in range(len(parts) + 1):
            part = parts[k] if k < len(parts) else ()
            if not family.holds(part + (useful[at],)):
                place(at + 1, parts[:k] + [part + (useful[at],)] + parts[k + 1:])

    if family.least_size() > 1:
        place(0, [])
    return best


class CouplesTest(Case):
    """Point 106."""

    def test_example(self):
        family = Family(4, [(0, 1), (0, 2), (0, 3), (1, 2)])
        self.assertEqual(
            [odd_ring(family), cliques(family), greatest_quiet(family), len(hueing(family)), hues(family),
             couple_strain(family)],
            [(0, 1, 2), ((0, 1, 2), (0, 3)), 2, 3, (3, 1), (4, 3)])

    def test_is_couples(self):
        for family in some_families(2101, 100) + some_couples(2102, 30):
            self.assertIs(is_couples(family), all(len(lot) == 2 for lot in family))
        self.assertIs(is_couples(ring(4)), True)
        self.assertIs(is_couples(fan(3)), True)
        self.assertIs(is_couples(fan(4)), False)
        self.assertIs(is_couples(Family(60, [(3, 59)])), True)
        self.assertIs(is_couples(Family.single()), False)

    def test_odd_ring(self):
        none, rings = 0, {3: 0, 5: 0, 7: 0}
        for family in some_couples(2103, 150) + [ring(n) for n in range(3, 9)]:
            due = odd_rings_by_definition(family)
            found = odd_ring(family)
            if due:
                self.assert_same(found, due[0])
                rings[len(found)] += 1
                # things of a shortest odd ring that are no neighbours are no lot
                inside = [lot for lot in family if set(lot) <= set(found)]
                self.assertEqual(len(inside), len(found))
            else:
                none += 1
                self.assertIsNone(found)
        self.assertTrue(none > 20 and rings[3] > 20 and rings[5] >= 1 and rings[7] >= 1)

    def test_odd_ring_with_few_threes(self):
        rng = random.Random(2104)
        counts = {}
        for _ in range(60):
            # rings of five and seven, one beside the other, with other names and a few more couples
            names = rng.sample(range(9), 9)
            pairs = [(k, (k + 1) % 5) for k in range(5)] + [(0, 5), (5, 6), (6, 7), (7, 8), (8, 3)]
            pairs = rng.sample(pairs, rng.randint(6, 10))
            family = Family(9, [[names[a], names[b]] for a, b in pairs])
            due = odd_rings_by_definition(family)
            self.assertEqual(odd_ring(family), due[0] if due else None)
            counts[len(due[0]) if due else 0] = counts.get(len(due[0]) if due else 0, 0) + 1
        self.assertTrue(counts.get(5, 0) > 3 and counts.get(0, 0) > 3)

    def test_the_first_of_the_shortest_rings(self):
        # the shortest ring does not go over the least thing
        family = Family(8, [(0, 1), (1, 2), (2, 3), (3, 4), (0, 4), (5, 7), (6, 7), (5, 6)])
        self.assertEqual(odd_ring(family), (5, 6, 7))
        family = Family(6, [(0, 5), (5, 1), (1, 4), (4, 2), (2, 0), (1, 2)])
        self.assertEqual(odd_ring(family), (1, 2, 4))
        # two rings through the least thing: the second place, then the third one, decides
        family = Family(7, [(0, 3), (3, 6), (0, 6), (0, 2), (2, 5), (0, 5)])
        self.assertEqual(odd_ring(family), (0, 2, 5))
        family = Family(5, [(0, 4), (3, 4), (0, 3), (2, 3), (0, 2)])
        self.assertEqual(odd_ring(family), (0, 2, 3))

    def test_odd_rings_of_sixty_things(self):
        for n in range(3, 60):
            self.assertEqual(odd_ring(ring(n)), tuple(range(n)) if n % 2 else None)
        self.assertIsNone(odd_ring(ring(60)))
        rng = random.Random(2105)
        for _ in range(20):
            family = random_couples(rng, 60, 200)
            found = odd_ring(family)
            self.assertTrue(all(tuple(sorted(p)) in family for p in zip(found, found[1:] + found[:1])))
            self.assertTrue(found[0] == min(found) and found[1] < found[-1] and len(set(found)) == len(found))
        self.assertEqual(odd_ring(votes(2, 60)), (0, 1, 2))
        # two sides: no odd ring
        self.assertIsNone(odd_ring(Family(60, [(a, b) for a in range(14) for b in range(46, 60)])))

    def test_cliques(self):
        for family in some_couples(2106, 120) + [votes(2, n) for n in range(2, 8)]:
            all_cliques = [s for s in subsets(range(family.things)) if is_clique(family, s)]
            due = sorted(s for s in all_cliques if not any(set(s) < set(t) for t in all_cliques))
            self.assert_same(cliques(family), tuple(due))

    def test_cliques_of_many_things(self):
        self.assertEqual(cliques(votes(2, 60)), (tuple(range(60)),))
        self.assertEqual(cliques(ring(60)), ring(60).lots)
        sides = Family(28, [(a, b) for a in range(14) for b in range(14, 28)])
        self.assertEqual(cliques(sides), sides.lots)
        three = joined(*[Family(4, [(0, 1)])] * 3)
        self.assertEqual(len(cliques(three)), 27)
        # 3 * 3 * 3 * 3 * 2 cliques, one thing of each of five groups
        groups = joined(*[joined(Family(3, [(0, 1), (0, 2), (1, 2)]))] * 2)
        self.assertEqual(cliques(groups), ((0, 1, 2, 3, 4, 5),))

    def test_greatest_quiet(self):
        for family in some_families(2107, 150, most_things=6) + some_couples(2108, 50) + [seven_lines(), fan(6)]:
            due = max(len(s) for s in subsets(family.useful) if not family.holds(s))
            self.assert_same(greatest_quiet(family), due)
        self.assertEqual(greatest_quiet(Family.single()), 0)
        self.assertEqual(greatest_quiet(Family(60, [(3, 7), (7, 59)])), 2)

    def test_greatest_quiet_of_many_things(self):
        self.assertEqual(greatest_quiet(votes(2, 20)), 1)
        self.assertEqual(greatest_quiet(block(3, 4)), 8)
        self.assertEqual(greatest_quiet(Family(60, [(k, k + 30) for k in range(7)])), 7)
        self.assertEqual(greatest_quiet(Family(60, [list(range(3 * k, 3 * k + 3)) for k in range(4)])), 8)
        self.assertEqual(greatest_quiet(Family(60, [[k] for k in range(60)])), 0)
        self.assertEqual(greatest_quiet(Family(60, [list(range(60))])), 59)
        self.assertEqual(greatest_quiet(~votes(2, 20)), 18)

    def test_hueing(self):
        families = some_families(2109, 100, most_things=7) + some_couples(2110, 60) + rich_families(2111, 40)
        sizes = {}
        for family in families + [seven_lines(), fan(7), four_points()]:
            if family.least_size() == 1:
                self.assert_error(BadFamily(0), hueing, family)
                continue
            found = hueing(family)
            self.assertTrue(is_hueing(family, found))
            self.assertEqual(len(found), least_hueing(family))
            self.assert_same(found, tuple(sorted(found)))
            sizes[len(found)] = sizes.get(len(found), 0) + 1
        self.assertTrue(sizes[2] > 20 and sizes[3] > 20 and sizes[4] >= 2)

    def test_hueing_of_twelve_things(self):
        for k in range(2, 13):
            found = hueing(votes(k, 12))
            self.assertTrue(is_hueing(votes(k, 12), found))
            self.assertEqual(len(found), -(-12 // (k - 1)))
        for family, many in ((ring(11), 3), (ring(12), 2), (joined(ring(5), ring(7)), 6)):
            self.assertEqual(len(hueing(family)), many)
        rng = random.Random(2112)
        family = useless_beside(votes(3, 12), rng.sample(range(60), 12), 60)
        self.assertTrue(is_hueing(family, hueing(family)))
        self.assertEqual(len(hueing(family)), 6)

    def test_joined(self):
        rng = random.Random(2113)
        for _ in range(60):
            families = [random_couples(rng, rng.randint(2, 4), rng.randint(1, 4)) for _ in range(rng.randint(1, 3))]
            starts = [sum(one.things for one in families[:k]) for k in range(len(families))]
            owner = [k for k, one in enumerate(families) for _ in range(one.things)]
            due = [pair for pair in combinations(range(len(owner)), 2)
                   if owner[pair[0]] != owner[pair[1]]
                   or tuple(e - starts[owner[pair[0]]] for e in pair) in families[owner[pair[0]]]]
            self.assertEqual(joined(*families), Family(len(owner), due))
        self.assertEqual(joined(ring(3)), ring(3))
        # useless things are in the new lots
        self.assertEqual(joined(Family(3, [(0, 1)]), votes(2, 2)).useful, (0, 1, 2, 3, 4))

    def test_joined_of_sixty_things(self):
        self.assertEqual(joined(*[votes(2, 2)] * 30), votes(2, 60))
        self.assertEqual(joined(*[ring(20)] * 3).things, 60)
        self.assertEqual(len(joined(*[ring(20)] * 3)), 60 + 3 * 400)


class FactsTest(Case):
    """Points 109 and 110."""

    def test_odd_rings_and_strains(self):
        for family in some_couples(2114, 120) + [ring(n) for n in range(3, 8)]:
            h, c = fraction(hues(family)), fraction(strain(family))
            self.assertIs(h == 2, odd_ring(family) is None)
            self.assertIs(h == 2, is_calm(family))
            self.assertGreaterEqual(h, 2)
            k = len(hueing(family))
            self.assertLessEqual(c, 2 - fraction((2, k)))
            for clique in cliques(family):
                self.assertGreaterEqual(h, len(clique))
                self.assertGreaterEqual(c, 2 - fraction((2, len(clique))))

    def test_shapes(self):
        for k in range(1, 9):
            self.assert_same(hues(ring(2 * k + 1)), (2 * k + 1, k))
        for n in range(2, 21):
            self.assert_same(hues(votes(2, n)), (n, 1))

    def test_hues_of_joined_families(self):
        rng = random.Random(2115)
        for _ in range(40):
            families = [random_couples(rng, rng.randint(2, 5), rng.randint(1, 6)) for _ in range(rng.randint(1, 3))]
            if all(len(one.useful) == one.things for one in families):
                total = sum(fraction(hues(one)) for one in families)
                self.assertEqual(fraction(hues(joined(*families))), total)


class ErrorsTest(Case):
    """Families that are not of couples, at each door."""

    def test_not_couples(self):
        cases = [
            (fan(4), (1, 2, 3)), (Family.single(), (0,)), (Family(4, [(0, 1), (3,)]), (3,)),
            (Family(5, [(0, 4), (0, 1, 2), (1, 2, 3, 4), (3,)]), (0, 1, 2)), (seven_lines(), (0, 1, 3)),
        ]
        for family, lot in cases:
            for call in (odd_ring, cliques, couple_strain, half_row, joined):
                self.assert_error(NotCouples(lot), call, family)
            self.assert_error(NotCouples(lot), joined, ring(3), family, None)
            self.assert_error(NotCouples(lot), couple_price, family, None)
            self.assertIs(is_couples(family), False)

    def test_least_size_one(self):
        for family in (Family.single(), Family(60, [(59,), (0, 1)]), Family(3, [(0,), (1,), (2,)])):
            for call in (hueing, hues):
                self.assert_error(BadFamily(0), call, family)

    def test_wrong_families_joined(self):
        self.assert_error(BadNumber("families"), joined)
        for wrong in [None, 1, [ring(3)], (ring(3), ring(3)), Family, "ring"]:
            self.assert_error(BadFamily(0), joined, wrong)
            self.assert_error(BadFamily(1), joined, ring(3), wrong, fan(4))
            self.assert_error(BadFamily(1), joined, ring(40), wrong, ring(40))
        self.assert_error(NotCouples((1, 2, 3)), joined, ring(40), fan(4), None, ring(40))
        self.assert_error(BadNumber("things"), joined, ring(40), ring(21))
        self.assert_error(BadNumber("things"), joined, *[Family(60, [(0, 1)])] * 2)
        self.assert_error(NotCouples((0,)), joined, ring(40), ring(21), Family.single())
        self.assertEqual(joined(ring(40), ring(20)).things, 60)

    def test_all_small_families(self):
        for family in all_families(3):
            if is_couples(family):
                self.assertEqual(odd_ring(family), (0, 1, 2) if len(family) == 3 else None)
            else:
                lot = [lot for lot in family if len(lot) != 2][0]
                self.assert_error(NotCouples(lot), odd_ring, family)


if __name__ == "__main__":
    unittest.main()
