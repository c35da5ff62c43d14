"""Points 9 and 14: families put in, merged, renamed, beside, both."""

import random
import unittest
from itertools import product

from shortbynarrow.errors import BadFamily, BadNames, BadNumber, BadThing, Lost, OtherSize
from shortbynarrow.families import Family
from shortbynarrow.putting import beside, both, merged, place_of, put_in, renamed
from tests.brute import NOT_LISTS, NOT_NUMBERS, least_sets, random_family, subsets
from tests.cases import Case


def some_puttings(seed, count, most_things=3, most_inner=3):
    """Return random families, each with a list of families to put in."""
    rng = random.Random(seed)
    found = []
    for _ in range(count):
        family = random_family(rng, rng.randint(1, most_things), 4)
        inner = [random_family(rng, rng.randint(1, most_inner), 3) for _ in range(family.things)]
        found.append((family, inner))
    return found


def shares_of(some, families):
    """Return the things of a set that belong to each of the families."""
    start, found = 0, []
    for family in families:
        found.append([e - start for e in some if start <= e < start + family.things])
        start += family.things
    return found


class PutInTest(Case):
    """Families put in."""

    def test_against_definition(self):
        for family, inner in some_puttings(31, 60):
            made = put_in(family, inner)
            starts = [sum(f.things for f in inner[:e]) for e in range(len(inner))]
            lots = []
            for lot in family.lots:
                for chosen in product(*[inner[e].lots for e in lot]):
                    lots.append([starts[e] + f for e, a in zip(lot, chosen) for f in a])
            self.assert_same(made.lots, least_sets(lots))
            self.assertEqual(len(made), len(lots))
            self.assertEqual(made.things, sum(f.things for f in inner))
            self.assertEqual(family(tuple(inner)), made)
            self.assertEqual(~made, (~family)([~f for f in inner]))
            for e, start in enumerate(starts):
                for f in range(inner[e].things):
                    self.assert_same(place_of(inner, e, f), start + f)
            if made.things <= 7:
                for some in subsets(range(made.things)):
                    outer = [e for e, share in enumerate(shares_of(some, inner)) if inner[e].holds(share)]
                    self.assertIs(made.holds(some), family.holds(outer))

    def test_parts(self):
        for family, inner in some_puttings(32, 40):
            made = put_in(family, inner)
            for e in range(family.things):
                for f in range(inner[e].things):
                    thing = place_of(inner, e, f)
                    self.check_parts(family, inner, e, lambda c: c // f, made, lambda c: c // thing,
                                     lambda c: c // e)
                    self.check_parts(family, inner, e, lambda c: c - f, made, lambda c: c - thing,
                                     lambda c: c - e)

    def check_parts(self, family, inner, e, inside, made, whole, outside):
        """Check that a part of a put-in family is made of a part of the inner or of the outer one."""
        try:
            changed = inside(inner[e])
        except Lost:
            try:
                self.assertEqual(whole(made), outside(family)(inner))
            except Lost:
                self.assertRaises(Lost, whole, made)
                self.assertRaises(Lost, outside, family)
            return
        self.assertEqual(whole(made), family(inner[:e] + [changed] + inner[e + 1:]))

    def test_twice(self):
        rng = random.Random(33)
        for family, inner in some_puttings(34, 30, most_inner=2):
            last = [[random_family(rng, rng.randint(1, 2), 2) for _ in range(f.things)] for f in inner]
            flat = [one for some in last for one in some]
            self.assertEqual(family(inner)(flat), family([f(some) for f, some in zip(inner, last)]))

    def test_errors(self):
        family, one = Family(2, [[0, 1]]), Family.single()
        for wrong in NOT_LISTS + [one]:
            self.assert_error(BadFamily(-1), put_in, family, wrong)
            self.assert_error(BadFamily(-1), place_of, wrong, 0, 0)
        self.assert_error(BadFamily(1), put_in, family, [one, None, 3])
        self.assert_error(OtherSize(1), put_in, family, [one])
        self.assert_error(BadNumber("things"), put_in, family, [one, Family(60, [[0]])])
        self.assert_error(BadFamily(1), place_of, [one, None], 7, 7)
        for wrong in NOT_NUMBERS + [-1, 2]:
            self.assert_error(BadThing(wrong), place_of, [one, family], wrong, 9)
            self.assert_error(BadThing(wrong), place_of, [one, family], 1, wrong)
        self.assert_error(BadThing(0), place_of, [], 0, 0)
        self.assert_error(BadThing(1), place_of, [one, family], 0, 1)

    def test_great_families(self):
        rows = Family(15, [[e] for e in range(15)])
        four = Family(4, [[0, 1], [1, 2], [2, 3], [0, 3]])
        made = rows([four] * 15)
        self.assertEqual((made.things, len(made)), (60, 60))
        self.assertEqual(place_of([four] * 15, 14, 3), 59)
        two = Family(2, [[0, 1]])
        blocks = two([Family(10, [[e] for e in range(10)]), Family(20, [[e] for e in range(20)])])
        self.assertEqual(len(blocks), 200)
        self.assertEqual((~blocks).lots, (tuple(range(10)), tuple(range(10, 30))))


class MergedTest(Case):
    """Families merged and renamed."""

    def test_merged(self):
        rng = random.Random(35)
        for _ in range(120):
            family = random_family(rng, rng.randint(1, 5))
            size = rng.randint(1, 5)
            names = [rng.randrange(size) for _ in range(family.things)]
            made = merged(family, names, size)
            self.assert_same(made.lots, least_sets({names[e] for e in lot} for lot in family.lots))
            self.assertEqual(made.things, size)
            self.assertEqual(merged(family, tuple(names), size), made)
            self.assertEqual(~made, merged(~family, names, size))
            for some in subsets(range(size)):
                things = [e for e in range(family.things) if names[e] in some]
                self.assertIs(made.holds(some), family.holds(things))

    def test_merged_errors(self):
        family = Family(3, [[0, 1]])
        for wrong in NOT_NUMBERS + [0, 61]:
            self.assert_error(BadNumber("size"), merged, family, None, wrong)
        for wrong in NOT_LISTS + [[], [0, 0], [0, 0, 0, 0]]:
            self.assert_error(BadNames(-1), merged, family, wrong, 2)
        for wrong in NOT_NUMBERS + [-1, 2]:
            self.assert_error(BadNames(1), merged, family, [0, wrong, wrong], 2)
        self.assertEqual(merged(family, [59, 59, 0], 60).lots, ((59,),))

    def test_renamed(self):
        rng = random.Random(36)
        for _ in range(80):
            family = random_family(rng, rng.randint(1, 5))
            names = rng.sample(range(family.things), family.things)
            made = renamed(family, names)
            self.assert_same(made.lots, least_sets({names[e] for e in lot} for lot in family.lots))
            self.assertEqual(renamed(made, [names.index(e) for e in range(family.things)]), family)
            self.assertEqual(made, merged(family, names, family.things))

    def test_renamed_errors(self):
        family = Family(3, [[0, 1]])
        for wrong in NOT_LISTS + [[], [0, 1], [0, 1, 2, 3]]:
            self.assert_error(BadNames(-1), renamed, family, wrong)
        for wrong in NOT_NUMBERS + [-1, 3]:
            self.assert_error(BadNames(2), renamed, family, [0, 0, wrong])
        self.assert_error(BadNames(1), renamed, family, [0, 0, 0])
        self.assert_error(BadNames(2), renamed, family, (2, 1, 2))


class SideBySideTest(Case):
    """beside and both."""

    def test_against_putting_in(self):
        rng = random.Random(37)
        for _ in range(60):
            inner = [random_family(rng, rng.randint(1, 3), 3) for _ in range(rng.randint(1, 3))]
            many = len(inner)
            self.assertEqual(beside(*inner), Family(many, [[e] for e in range(many)])(inner))
            self.assertEqual(both(*inner), Family(many, [list(range(many))])(inner))
            self.assertEqual(~beside(*inner), both(*[~f for f in inner]))
        one = Family(3, [[0, 2]])
        self.assertEqual(beside(one), one)
        self.assertEqual(both(one), one)
        self.assertEqual(beside(one, Family.single()).lots, ((0, 2), (3,)))
        self.assertEqual(both(one, Family.single()).lots, ((0, 2, 3),))
        self.assertEqual(both(*[Family.single()] * 60).lots, (tuple(range(60)),))

    def test_errors(self):
        one = Family.single()
        for call in (beside, both):
            self.assert_error(BadNumber("families"), call)
            self.assert_error(BadFamily(1), call, one, None, 3)
            self.assert_error(BadFamily(0), call, [one])
            self.assert_error(BadFamily(61), call, *[one] * 61, None)
            self.assert_error(BadNumber("things"), call, *[one] * 61)
            self.assert_error(BadNumber("things"), call, Family(60, [[0]]), one)


if __name__ == "__main__":
    unittest.main()
