"""Point 101: the price of a least break, also with families put in."""

import random
import unittest

from shortbynarrow.breakprices import break_price, put_break_price
from shortbynarrow.cores import Break, EvenBreak, FanBreak, read_break
from shortbynarrow.errors import BadFamily, BadRow, OtherSize, TooMany
from shortbynarrow.families import Family
from shortbynarrow.pricing import price
from shortbynarrow.putprices import put_price
from shortbynarrow.rows import Row
from shortbynarrow.shapes import fan, ring, seven_lines, votes
from tests.brute import amount_of, fractions, random_family, random_row_of, sum_of, useless_beside
from tests.cases import Case

S = Family.single()
BREAKS = [fan(m) for m in range(3, 8)] + [ring(5), ring(7), seven_lines(), ~ring(5), ~ring(7)]


class BreakPriceTest(Case):
    """The closed form against the price."""

    def test_example(self):
        found, one = read_break(fan(4)), Family.single()
        self.assertEqual(
            [break_price(found, (1, 9, 9, 9)), put_break_price(found, [votes(2, 2), one, one, one], (2, 1, 1, 1, 1))],
            [(1, 1), (7, 9)])

    def test_many_tolls(self):
        rng = random.Random(2001)
        kinds = {"least toll": 0, "broken corners": 0}
        for family in BREAKS:
            found = read_break(family)
            for most in (1, 2, 3, 9, 10 ** 6):
                for _ in range(6):
                    tolls = Row([rng.randint(1, most) for _ in range(family.things)], rng.randint(1, 3))
                    due = price(family, tolls)
                    self.assert_same(break_price(found, tolls), due)
                    total = amount_of(sum_of(found.x, found.y, tolls))
                    kinds["broken corners" if due == total else "least toll"] += 1
                    self.assertIn(due, [amount_of(min(fractions(tolls))), total])
        self.assertGreater(kinds["least toll"], 50)
        self.assertGreater(kinds["broken corners"], 50)

    def test_tolls_of_zero_and_great_ones(self):
        for family in BREAKS:
            found = read_break(family)
            n = family.things
            self.assert_same(break_price(found, [0] * n), (0, 1))
            for e in range(n):
                self.assert_same(break_price(found, [0 if f == e else 5 for f in range(n)]), (0, 1))
                tolls = [10 ** 39 + 7 * f if f != e else 1 for f in range(n)]
                self.assert_same(break_price(found, tolls), price(family, tolls))
                great = Row([10 ** 39 + (f * f + 3) * (e + 1) for f in range(n)], 10 ** 40)
                self.assert_same(break_price(found, great), price(family, great))

    def test_useless_things(self):
        rng = random.Random(2002)
        for small in BREAKS:
            places = rng.sample(range(60), small.things)
            family = useless_beside(small, places, 60)
            found = read_break(family)
            tolls = [rng.choice([0, 1, 5]) for _ in range(60)]
            for e, place in enumerate(places):
                tolls[place] = e + 2
            self.assert_same(break_price(found, tolls), break_price(read_break(small), list(range(2, small.things + 2))))
            self.assert_same(break_price(found, tolls), price(family, tolls))

    def test_each_class_of_breaks(self):
        tolls = [3, 1, 2, 2, 1]
        for one in (Break(ring(5)), EvenBreak(ring(5))):
            self.assert_same(break_price(one, tolls), price(ring(5), tolls))
        for one in (Break(fan(5)), FanBreak(fan(5))):
            self.assert_same(break_price(one, tuple(tolls)), price(fan(5), tolls))

    def test_errors(self):
        found = read_break(ring(5))
        self.assert_row_errors(5, lambda row: break_price(found, row))


class PutBreakPriceTest(Case):
    """The closed form with families put in."""

    def test_against_the_family_that_is_made(self):
        rng = random.Random(2003)
        for _ in range(60):
            family = rng.choice([ring(3), fan(4), ring(5)])
            families = [S] * family.things
            room = 7 - family.things
            while room > 0:
                e = rng.randrange(family.things)
                families[e] = random_family(rng, rng.randint(1, 1 + room), 4)
                room -= max(1, families[e].things - 1)
            if sum(len(one.useful) for one in families) > 7:
                continue
            made = family(families)
            tolls = random_row_of(rng, made.things, 5)
            self.assert_same(put_break_price(read_break(family), families, tolls), price(made, tolls))
            self.assert_same(put_break_price(read_break(family), tuple(families), tolls), price(made, tolls))

    def test_more_than_seven_things(self):
        families = [votes(4, 7), seven_lines(), ring(7), fan(7), ring(3)]
        tolls = Row([10 ** 39 + 3 ** e for e in range(31)], 10 ** 38)
        self.assert_same(put_break_price(read_break(ring(5)), families, tolls), put_price(ring(5), families, tolls))
        # more than 60 things are no error here, as for put_prices_row
        many = [Family(30, [(0, 1), (0, 2), (1, 2)])] * 3
        self.assert_same(put_break_price(read_break(ring(3)), many, [1] * 90), (9, 16))

    def test_useless_places(self):
        family = Family(4, [(0, 1), (0, 3), (1, 3)])
        found = read_break(family)
        families = [S, S, ring(3), votes(2, 2)]
        self.assert_same(put_break_price(found, families, [1, 1, 0, 0, 0, 1, 1]), (3, 4))
        self.assert_same(put_break_price(found, families, [1, 1, 9, 9, 9, 0, 1]), (0, 1))

    def test_errors_in_their_order(self):
        found = read_break(ring(3))
        self.assert_families_errors(3, lambda families: put_break_price(found, families, None))
        self.assert_row_errors(5, lambda row: put_break_price(found, [S, ring(3), S], row))
        eight = ring(8)
        self.assert_error(TooMany(7), put_break_price, found, [S, S, eight], [1] * 10)
        self.assert_error(OtherSize(9), put_break_price, found, [S, S, eight], [1] * 9)
        self.assert_error(BadRow(0), put_break_price, found, [S, S, eight], [-1] * 9)
        self.assert_error(OtherSize(2), put_break_price, found, [S, eight], None)
        self.assert_error(BadFamily(1), put_break_price, found, [eight, 5], None)
        # an inner family at a useless thing is asked, too
        wide = read_break(Family(4, [(0, 1), (0, 2), (1, 2)]))
        self.assert_error(TooMany(7), put_break_price, wide, [S, S, S, eight], [1] * 11)

    def test_lists_stay_as_they_were(self):
        families, tolls = [S, ring(3), S], [1, 2, 3, 4, 5]
        put_break_price(read_break(ring(3)), families, tolls)
        self.assertEqual((families, tolls), ([S, ring(3), S], [1, 2, 3, 4, 5]))


if __name__ == "__main__":
    unittest.main()
