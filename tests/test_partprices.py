"""Points 54 to 56 and 60: prices of parts."""

import random
import unittest

from shortbynarrow.errors import BadRow, BadSet, BadThing, Clash, OtherSize, TooMany
from shortbynarrow.families import Family
from shortbynarrow.partprices import far_toll, lesser_part, lesser_parts, price_of_part, rests
from shortbynarrow.parts import is_lost, part
from shortbynarrow.pricing import best_pairs, price
from shortbynarrow.rows import Row
from shortbynarrow.shapes import ring, votes
from tests.brute import (
    all_families, amount_of, fraction, random_row_of, rich_families, some_families, subsets, useless_beside,
)
from tests.cases import Case

BOUNDS = {1: 1, 2: 1, 3: 2, 4: 3, 5: 5, 6: 9, 7: 32}


def families_and_tolls(seed):
    """Return families of several kinds, each with tolls."""
    rng = random.Random(seed)
    pool = all_families(2) + some_families(seed + 1, 40) + rich_families(seed + 2, 30, 3, 6)
    return [(family, rng.choice([random_row_of(rng, family.things), Row.ones(family.things)])) for family in pool]


def least_price(family, tolls, things):
    """Return the least price of a part by just these things as a Fraction, None if there is none."""
    found = []
    for left in subsets(things):
        kept = [e for e in things if e not in left]
        if not is_lost(family, left, kept):
            found.append(fraction(price(part(family, left, kept), tolls)))
    return min(found) if found else None


class PartTest(Case):
    """Point 54: parts and the lesser part."""

    def test_example(self):
        family = Family(4, [(0, 1), (0, 2), (0, 3), (1, 2)])
        ones = [1, 1, 1, 1]
        self.assertEqual(
            [price_of_part(family, ones, [], [3]), price_of_part(family, ones, [3], []),
             lesser_part(family, ones, 3)],
            [(1, 1), (3, 4), (3, 4)])
        self.assertEqual(
            [rests(family, ones, 3), rests(family, ones, 0), far_toll(family, ones, [0])],
            [True, False, (9, 1)])

    def test_price_of_part(self):
        rng = random.Random(601)
        for family, tolls in families_and_tolls(602):
            whole_price = fraction(price(family, tolls))
            for _ in range(8):
                sides = [rng.randint(0, 2) for _ in range(family.things)]
                left = [e for e, side in enumerate(sides) if side == 1]
                kept = [e for e, side in enumerate(sides) if side == 2][::-1]
                found = price_of_part(family, tolls, left, kept)
                if is_lost(family, left, kept):
                    self.assertIsNone(found)
                    continue
                self.assert_same(found, price(part(family, left, kept), tolls))
                self.assertGreaterEqual(fraction(found), whole_price)
                other = tolls
                for e in left + kept:
                    other = other.with_entry(e, rng.randint(0, 9))
                self.assert_same(price_of_part(family, other, tuple(left), tuple(kept)), found)
            self.assert_same(price_of_part(family, tolls, [], []), price(family, tolls))

    def test_lesser_part_and_rests(self):
        seen = {True: 0, False: 0}
        for family, tolls in families_and_tolls(603):
            loads = [x * y for x, y in best_pairs(family, tolls)]
            for e in range(family.things):
                found = lesser_part(family, tolls, e)
                expected = least_price(family, tolls, (e,))
                resting = rests(family, tolls, e)
                self.assertIs(resting, any(u[e] == (0, 1) for u in loads))
                seen[resting] += 1
                if expected is None:
                    self.assertIsNone(found)
                    self.assertEqual(family.lots, ((e,),))
                    self.assertIs(resting, False)
                    self.assert_same(price(family, tolls), tolls[e])
                    continue
                self.assert_same(found, amount_of(expected))
                self.assertIs(resting, price(family, tolls) == found)
                self.assert_same(lesser_part(family, tolls.with_entry(e, 77), e), found)
                if e not in family.useful:
                    self.assert_same(found, price(family, tolls))
        self.assertGreater(min(seen.values()), 40)

    def test_one_thing_more(self):
        rng = random.Random(604)
        for family, tolls in families_and_tolls(605):
            for e in family.useful:
                s = lesser_part(family, tolls, e)
                if s is None:
                    continue
                s = fraction(s)
                for top in (0, 1, rng.randint(1, 9)):
                    toll = s * top / 4
                    value = fraction(price(family, tolls.with_entry(e, amount_of(toll))))
                    if 2 * toll <= s:
                        self.assertEqual(value, toll)
                    self.assertGreaterEqual(4 * toll * value + s * s, 4 * toll * s)
                    self.assertLessEqual(value, s)
        # at the ring of three things the bound of point 56 is reached: 4 * 1 * 3/4 + 1 = 4
        self.assertEqual((price(ring(3), [1, 1, 1]), lesser_part(ring(3), [1, 1, 1], 0)), ((3, 4), (1, 1)))


class PartsTest(Case):
    """Points 54 and 55: parts by several things, far tolls."""

    def test_against_the_definition(self):
        rng = random.Random(611)
        seen = 0
        for family, tolls in families_and_tolls(612):
            for _ in range(4):
                things = [e for e in range(family.things) if rng.random() < 0.5]
                rng.shuffle(things)
                expected = least_price(family, tolls, sorted(things))
                found = lesser_parts(family, tolls, things)
                far = far_toll(family, tolls, things)
                if expected is None:
                    self.assertIsNone(found)
                    self.assertIsNone(far)
                    seen += 1
                    continue
                self.assert_same(found, amount_of(expected))
                bound = BOUNDS[len(family.useful)]
                self.assert_same(far, amount_of(expected * bound * bound))
                raised = tolls
                for e in things:
                    raised = raised.with_entry(e, amount_of(fraction(far) + rng.randint(0, 1)))
                self.assert_same(price(family, raised), found)
                self.assert_same(lesser_parts(family, raised, things), found)
                self.assert_same(lesser_parts(family, tolls, set_with_useless(family, things)), found)
        self.assertGreater(seen, 10)

    def test_edges(self):
        ones = [1, 1, 1]
        self.assert_same(lesser_parts(ring(3), ones, []), (3, 4))
        self.assert_same(lesser_parts(ring(3), ones, ()), (3, 4))
        self.assert_same(far_toll(ring(3), ones, ()), (3, 1))
        self.assert_same(lesser_parts(ring(3), ones, [2, 0]), (1, 1))
        self.assertIsNone(lesser_parts(ring(3), ones, [0, 1, 2]))
        self.assertIsNone(far_toll(ring(3), ones, [0, 1, 2]))
        single = Family(2, [(1,)])
        self.assertIsNone(lesser_part(single, [3, 4], 1))
        self.assertIsNone(far_toll(single, [3, 4], [1]))
        self.assert_same(lesser_part(single, [3, 4], 0), (4, 1))
        self.assert_same(lesser_parts(single, [3, 4], [0]), (4, 1))
        self.assert_same(far_toll(single, Row([3, 4], 5), [0]), (4, 5))
        self.assertIs(rests(single, [3, 4], 0), True)
        self.assertIs(rests(single, [3, 4], 1), False)

    def test_several_lots_all_lost(self):
        # holding or leaving out all useful things always loses the part
        for family in some_families(613, 30):
            self.assertIsNone(lesser_parts(family, [1] * family.things, family.useful))


def set_with_useless(family, things):
    """Return the set with the useless things of the family, too."""
    useless = [e for e in range(family.things) if e not in family.useful]
    return sorted({*things, *useless})


class SizesTest(Case):
    """Point 60 and the errors."""

    def test_errors(self):
        family, ones = Family(3, [(0, 1)]), [1, 1, 1]
        self.assert_row_errors(3, lambda row: price_of_part(family, row, None, None))
        self.assert_set_errors(3, lambda left: price_of_part(family, ones, left, None))
        self.assert_set_errors(3, lambda kept: price_of_part(family, ones, [0, 1], kept))
        self.assert_error(Clash(1), price_of_part, family, ones, [2, 1], [1, 2])
        for call in (lesser_part, rests):
            self.assert_row_errors(3, lambda row, call=call: call(family, row, None))
            self.assert_thing_errors(3, lambda thing, call=call: call(family, ones, thing))
        for call in (lesser_parts, far_toll):
            self.assert_row_errors(3, lambda row, call=call: call(family, row, None))
            self.assert_set_errors(3, lambda things, call=call: call(family, ones, things))

    def test_too_many(self):
        ones = [1] * 9
        nine = ring(9)
        for call, thing in ((lesser_part, 0), (rests, 0), (lesser_parts, []), (far_toll, list(range(9)))):
            self.assert_error(TooMany(7), call, nine, ones, thing)
            self.assert_error(OtherSize(8), call, nine, ones[1:], thing)
            self.assert_error(BadRow(0), call, nine, [-1], None)
        self.assert_error(BadThing(9), lesser_part, nine, ones, 9)
        self.assert_error(BadThing(9), rests, nine, ones, 9)
        self.assert_error(BadSet(0), lesser_parts, nine, ones, [9])
        self.assert_error(BadSet(0), far_toll, nine, ones, [9])
        self.assert_error(TooMany(7), price_of_part, nine, ones, [], [])
        self.assert_error(TooMany(7), price_of_part, nine, ones, [0], [])
        self.assert_error(Clash(0), price_of_part, nine, ones, [0], [0])
        # only the part is asked: it has seven useful things, or it is lost
        self.assert_same(price_of_part(nine, ones, [0, 8], []), (1, 1))
        self.assertIsNone(price_of_part(nine, ones, [], [0, 1]))
        self.assertIsNone(price_of_part(ring(60), [1] * 60, list(range(60)), []))

    def test_useless_things(self):
        places = [1, 9, 22, 23, 40, 50, 59]
        family = useless_beside(votes(4, 7), places, 60)
        tolls = Row([10 ** 40 - e for e in range(60)], 10 ** 39 + 7)
        small = Row.of_amounts([tolls[e] for e in places])
        self.assert_same(lesser_part(family, tolls, 9), lesser_part(votes(4, 7), small, 1))
        self.assert_same(price_of_part(family, tolls, [0, 9, 58], [59, 2]),
                         price_of_part(votes(4, 7), small, [1], [6]))
        self.assertIs(rests(family, tolls, 9), rests(votes(4, 7), small, 1))
        self.assert_same(lesser_part(family, tolls, 0), price(family, tolls))
        self.assert_same(lesser_parts(family, tolls, list(range(30))),
                         lesser_parts(votes(4, 7), small, [0, 1, 2, 3]))
        useless = [e for e in range(60) if e not in places]
        self.assert_same(lesser_parts(family, tolls, useless), price(family, tolls))
        self.assertIsNone(lesser_parts(family, tolls, list(range(60))))
        self.assertIs(rests(family, tolls, 0), True)
        self.assertEqual(fraction(far_toll(family, tolls, useless)), 1024 * fraction(price(family, tolls)))


if __name__ == "__main__":
    unittest.main()
