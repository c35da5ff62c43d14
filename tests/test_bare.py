"""Points 83, 85 and 87: bare plays of parts, settled pairs of parts and of put-in families."""

import random
import unittest

from shortbynarrow.bare import bare_play, raised_pair
from shortbynarrow.cornerput import put_row
from shortbynarrow.errors import BadPlay, BadThing, Lost, NotCover, OtherSize, TooMany
from shortbynarrow.families import Family
from shortbynarrow.parts import part
from shortbynarrow.plays import Play
from shortbynarrow.pricing import sum_of_pair
from shortbynarrow.rows import Row
from shortbynarrow.settling import is_settled, settled_pairs
from shortbynarrow.shapes import fan, ring, votes
from shortbynarrow.strains import strain, worst_pair
from tests.brute import (
    all_families, amount_of, fraction, fractions, positive_row_of, random_family, rich_families, short_of,
    some_families, sum_of, useless_beside,
)
from tests.cases import Case

BOUNDS = {1: 1, 2: 1, 3: 2, 4: 3, 5: 5, 6: 9, 7: 32}


class BarePlayTest(Case):
    """Point 83."""

    def test_bare_play(self):
        parts = 0
        for family in all_families(3) + some_families(1601, 40, 6) + rich_families(1602, 50):
            c, (x, y) = fraction(strain(family)), worst_pair(family)
            found = bare_play(family)
            self.assertIs(type(found), tuple)
            left, kept, play = found
            self.assert_same(kept, tuple(e for e in family.useful if x[e] == (0, 1)))
            self.assert_same(left, tuple(e for e in family.useful if y[e] == (0, 1) and x[e] != (0, 1)))
            self.assertIs(type(play), Play)
            self.assertEqual(play.family, part(family, left, kept))
            stays = [e for e in family.useful if e not in left and e not in kept]
            self.assertEqual(fractions(play.ours), [c * fraction(y[e]) if e in stays else 0
                                                    for e in range(family.things)])
            self.assertEqual(fractions(play.theirs), [c * fraction(x[e]) if e in stays else 0
                                                      for e in range(family.things)])
            self.assertEqual(play.costs, Row.ones(family.things))
            self.assertTrue(play.is_bare() and play.is_steady())
            self.assertEqual(fraction(play.mean()), c)
            parts += bool(left or kept)
        self.assertGreater(parts, 30)

    def test_examples(self):
        left, kept, play = bare_play(Family(4, [(0, 1), (0, 2), (0, 3), (1, 2)]))
        self.assertEqual((left, kept, play.family.lots), ((3,), (), ((0, 1), (0, 2), (1, 2))))
        self.assertEqual(play.ours, Row([2, 2, 2, 0], 3))
        left, kept, play = bare_play(ring(5))
        self.assertEqual((left, kept, play.family), ((), (), ring(5)))
        left, kept, play = bare_play(useless_beside(fan(7), [0, 9, 12, 33, 41, 50, 59], 60))
        self.assertEqual((left, kept, play.family.things), ((), (), 60))
        self.assert_error(TooMany(7), bare_play, ring(8))


class RaisedPairTest(Case):
    """Point 87."""

    def parts_by_one(self, family):
        """Return (thing, word, part) for all parts by one thing, useless things too."""
        found = []
        for e in range(family.things):
            if (e,) not in family:
                found.append((e, "held", family // e))
            if not all(e in lot for lot in family):
                found.append((e, "left", family - e))
        return found

    def test_raised_pair(self):
        rng = random.Random(1611)
        seen = {("held", True): 0, ("held", False): 0, ("left", True): 0, ("left", False): 0}
        for family in all_families(2) + some_families(1612, 40) + rich_families(1613, 25, 3, 6):
            bound = BOUNDS[len(family.useful)]
            for e, word, small in self.parts_by_one(family):
                for x, y in settled_pairs(small, [1] * family.things)[:6]:
                    s = sum_of(x, y)
                    found = raised_pair(family, e, word, x, y)
                    self.assertIs(type(found), tuple)
                    self.assertTrue(all(type(row) is Row for row in found))
                    side, rows = (~family, y) if word == "held" else (family, x)
                    needs = [1 - sum(fraction(rows[f]) for f in lot if f != e) for lot in side if e in lot]
                    t = max([bound * s, *needs])
                    raised = rows.with_entry(e, amount_of(t))
                    self.assertEqual(found, (x, raised) if word == "held" else (raised, y))
                    self.assertTrue(is_settled(family, *found))
                    self.assertEqual(sum_of(*found), s)
                    seen[word, e in family.useful] += 1
                    # the entries at the thing are not looked at
                    other = (x.with_entry(e, rng.randint(0, 9)), y.with_entry(e, (rng.randint(0, 9), 7)))
                    self.assertEqual(raised_pair(family, e, word, *other), found)
        self.assertGreater(min(seen.values()), 20)

    def test_pairs_that_are_no_corners(self):
        family = Family(4, [(0, 1), (0, 2), (0, 3), (1, 2)])
        found = raised_pair(family, 3, "left", Row([1, 1, 1, 5], 2), Row([1, 1, 1, 1], 2))
        self.assertEqual(found, (Row([2, 2, 2, 9], 4), Row([1, 1, 1, 0], 2)))
        # a settled pair of the part with a needlessly great entry where the other row is 0
        found = raised_pair(family, 0, "held", [7, 1, 1, 3], [9, 1, 0, 0])
        self.assertEqual(found, (Row([0, 1, 1, 3]), Row([3, 1, 0, 0])))
        self.assertTrue(is_settled(family, *found))

    def test_the_lost_part_and_its_means(self):
        # each mean of a steady play of a part is one of a steady play of the family
        for family in rich_families(1614, 20, 3, 5):
            for e, word, small in self.parts_by_one(family):
                for x, y in settled_pairs(small, [1] * family.things)[:3]:
                    play = Play.of_pair(family, *raised_pair(family, e, word, x, y))
                    self.assertEqual(play.mean(), Play.of_pair(small, x, y).mean())
        self.assert_error(Lost(0, "held"), raised_pair, Family(2, [(0,)]), 0, "held", [0, 0], [0, 0])
        self.assert_error(Lost(0, "left"), raised_pair, Family(2, [(0,)]), 0, "left", [0, 0], [0, 0])

    def test_errors(self):
        family = Family(4, [(0, 1), (0, 2), (0, 3), (1, 2)])
        self.assert_thing_errors(4, lambda thing: raised_pair(family, thing, None, None, None))
        for wrong in [None, "", "hold", "Held", "left ", 0, True, ["held"], ("left",), Row([1])]:
            self.assert_error(BadPlay("word"), raised_pair, family, 3, wrong, None, None)
        self.assert_row_errors(4, lambda row: raised_pair(family, 3, "left", row, None))
        self.assert_row_errors(4, lambda row: raised_pair(family, 3, "held", [0] * 4, row))
        always = Family(4, [(0, 1), (0, 2)])
        self.assert_error(Lost(0, "left"), raised_pair, always, 0, "left", [0] * 4, [0] * 4)
        self.assert_error(Lost(3, "held"), raised_pair, Family(4, [(0, 1), (3,)]), 3, "held", [0] * 4, [0] * 4)
        # the entry at the thing counts as 0, so it does not make a cover
        self.assert_error(NotCover((0, 1)), raised_pair, family, 3, "left", [0, 0, 0, 9], [0] * 4)
        self.assert_error(NotCover((0,)), raised_pair, family, 3, "held", [0, 1, 1, 9], [0] * 4)
        self.assert_error(NotCover((1,)), raised_pair, family, 0, "left", [0, 1, 0, 0], [9, 0, 0, 0])
        self.assert_error(NotCover((0, 1)), raised_pair, family, 3, "held", [1, 1, 0, 0], [0, 0, 1, 9])
        self.assert_error(BadPlay("settled"), raised_pair, family, 3, "left", [1, 1, 1, 0], [1, 1, 1, 0])
        self.assert_error(BadPlay("settled"), raised_pair, family, 3, "held", [1, 1, 1, 0], [1, 1, 1, 0])

    def test_too_many(self):
        family = votes(2, 9)
        x, y = Row([0] + [1] * 8, 2), Row([0] + [1] * 8, 7)
        self.assert_error(TooMany(7), raised_pair, family, 0, "left", x, y)
        self.assert_error(BadPlay("settled"), raised_pair, family, 0, "left", x, 2 * y)
        self.assert_error(OtherSize(8), raised_pair, family, 0, "left", x, [1] * 8)
        self.assert_error(BadThing(9), raised_pair, family, 9, "left", x, y)
        seven = useless_beside(votes(2, 7), [0, 5, 9, 31, 44, 58, 59], 60)
        inside = Row.of_set([0, 5, 9, 31, 44, 58], 60)
        found = raised_pair(seven, 59, "left", inside.scaled((1, 2)), inside.scaled((1, 5)))
        self.assertEqual(found[0][59], amount_of(32 * fraction((3, 5))))
        self.assertTrue(is_settled(seven, *found))


class PutInTest(Case):
    """Point 85."""

    def test_settled_pairs_put_in(self):
        rng = random.Random(1621)
        for _ in range(60):
            outer = rng.choice([ring(3), random_family(rng, rng.randint(1, 3), 3)])
            families = [rng.choice([Family.single(), ring(3), random_family(rng, rng.randint(1, 3), 3)])
                        for _ in range(outer.things)]
            made = outer(families)
            tolls = positive_row_of(rng, made.things)
            start, inner, sums = 0, [], []
            for one in families:
                share = Row.of_amounts([tolls[start + f] for f in range(one.things)])
                start += one.things
                pair = rng.choice(settled_pairs(one, share))
                inner.append(pair)
                sums.append(sum_of_pair(*pair, share))
            x, y = rng.choice(settled_pairs(outer, Row.of_amounts(sums)))
            ours = put_row(outer, families, x, [v for v, _ in inner])
            theirs = put_row(outer, families, y, [w for _, w in inner])
            self.assertTrue(is_settled(made, ours, theirs, tolls=tolls))
            self.assertEqual(sum_of_pair(ours, theirs, tolls), sum_of_pair(x, y, Row.of_amounts(sums)))
            self.assertGreaterEqual(short_of(made.lots, fractions(ours)), 1)


if __name__ == "__main__":
    unittest.main()
