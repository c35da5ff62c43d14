"""Points 76, 77, 79 to 82 and 86: plays of the meeting game."""

import random
import unittest
from fractions import Fraction
from itertools import combinations

from shortbynarrow.bounds import strain_top
from shortbynarrow.breakers import breaking
from shortbynarrow.errors import BadPlay, NotCover, OtherSize, TooMany
from shortbynarrow.families import Family
from shortbynarrow.mixes import mix_under
from shortbynarrow.plays import Play
from shortbynarrow.pricing import best_pair, price
from shortbynarrow.rows import Row
from shortbynarrow.settling import contrary_of, is_settled, settled_pairs
from shortbynarrow.shapes import fan, ring, seven_lines, votes
from shortbynarrow.strains import is_calm, strain
from tests.brute import (
    all_families, amount_of, fraction, fractions, is_mix_of, positive_row_of, random_family, random_mix,
    random_row_of, rich_families, some_families, sum_of, useless_beside,
)
from tests.cases import Case


def pool(seed):
    """Return families of several kinds."""
    return all_families(2) + some_families(seed, 30) + rich_families(seed + 1, 30, 3, 6)


def random_play(rng, family, costs):
    """Return a play with mixes, some of them raised."""
    ours, theirs = random_mix(rng, family), random_mix(rng, ~family)
    if rng.random() < 0.5:
        ours = ours + random_row_of(rng, family.things, 1, 2)
    return Play(family, ours, theirs, costs=costs)


class PlayTest(Case):
    """Points 76 and 77."""

    def test_examples(self):
        self.assertEqual(Play(votes(2, 3), [1, 1, 0], [1, 1, 0]).better(), ("ours", (0, 2)))
        play = Play.worst(votes(2, 3))
        self.assertEqual([play.mean(), play.ours.tops, play.ours.bottom, play.is_bare()],
                         [(4, 3), (2, 2, 2), 3, True])

    def test_attributes(self):
        family = ring(3)
        play = Play(family, [1, 1, 0], (1, 0, 1), costs=[1, 2, 3])
        self.assertEqual((play.family, play.ours, play.theirs, play.costs),
                         (family, Row([1, 1, 0]), Row([1, 0, 1]), Row([1, 2, 3])))
        self.assertTrue(all(type(row) is Row for row in (play.ours, play.theirs, play.costs)))
        plain = Play(family=family, ours=Row([9, 1, 1]), theirs=[1, 1, 1])
        self.assertEqual(plain.costs, Row([1, 1, 1]))
        self.assertEqual(Play(family, [1, 1, 0], [1, 0, 1], costs=None).costs, Row([1, 1, 1]))
        self.assertEqual(plain.mean(), (11, 1))

    def test_which_rows_make_a_play(self):
        rng = random.Random(1401)
        seen = {True: 0, False: 0}
        for family in pool(1402):
            for _ in range(4):
                ours, theirs = random_row_of(rng, family.things, 3, 3), random_row_of(rng, family.things, 3, 3)
                good = breaking(family, ours) is None
                if not good:
                    self.assert_error(BadPlay("ours"), Play, family, ours, theirs)
                elif breaking(~family, theirs) is not None:
                    self.assert_error(BadPlay("theirs"), Play, family, ours, theirs)
                else:
                    self.assertEqual(Play(family, ours, theirs).theirs, theirs)
                seen[good] += 1
        self.assertGreater(min(seen.values()), 30)

    def test_equal(self):
        play = Play(ring(3), [1, 1, 0], [1, 0, 1])
        self.assertIs(play == Play(ring(3), Row([1, 1, 0]), (1, 0, 1), costs=[1, 1, 1]), True)
        self.assertIs(play == Play(ring(3), [1, 1, 0], [1, 0, 1], costs=[1, 1, 2]), False)
        self.assertIs(play == Play(ring(3), [1, 1, 1], [1, 0, 1]), False)
        self.assertIs(play == Play(ring(3), [1, 1, 0], [1, 1, 1]), False)
        self.assertIs(play == Play(Family(3, [(0, 1), (0, 2)]), [1, 1, 0], [1, 0, 1]), False)
        for other in (None, 1, (), ring(3), Row([1]), "x"):
            self.assertIs(play == other, False)

    def test_mean_and_better(self):
        rng = random.Random(1403)
        seen = {"ours": 0, "theirs": 0, None: 0}
        for family in pool(1404):
            for _ in range(4):
                costs = rng.choice([Row.ones(family.things), positive_row_of(rng, family.things)])
                play = random_play(rng, family, costs)
                mean = sum_of(play.ours, play.theirs, costs)
                self.assert_same(play.mean(), amount_of(mean))
                self.assertGreaterEqual(mean, min(fraction(costs[e]) for e in family.useful))
                expected = self.better_by_definition(play, mean)
                found = play.better()
                self.assert_same(found, expected)
                self.assertIs(play.is_steady(), expected is None)
                seen[expected and expected[0]] += 1
                if expected is not None:
                    word, lot = expected
                    row = Row.of_set(lot, family.things)
                    ours, theirs = (row, play.theirs) if word == "ours" else (play.ours, row)
                    lesser = Play(family, ours, theirs, costs=costs).mean()
                    self.assertLess(fraction(lesser), mean)
        self.assertGreater(min(seen.values()), 15)

    def better_by_definition(self, play, mean):
        """Return what `better` tells, from the sums on all lots."""
        sides = (("ours", play.family, play.theirs), ("theirs", ~play.family, play.ours))
        for word, family, row in sides:
            entries = fractions(play.costs * row)
            for lot in family.lots:
                if sum(entries[e] for e in lot) < mean:
                    return word, lot
        return None

    def test_mixes_and_bare(self):
        rng = random.Random(1405)
        seen = {True: 0, False: 0}
        for family in all_families(2) + some_families(1406, 40, 4, 4) + rich_families(1407, 10, 3, 4):
            for _ in range(4):
                play = random_play(rng, family, None)
                found = play.mixes()
                self.assertIs(type(found), tuple)
                self.assert_same(found[0], mix_under(family, play.ours))
                self.assert_same(found[1], mix_under(~family, play.theirs))
                self.assertEqual(len(found), 2)
                for mix, row in zip(found, (play.ours, play.theirs)):
                    self.assertEqual(sum(fraction(weight) for _, weight in mix), 1)
                    for e in range(family.things):
                        self.assertLessEqual(sum(fraction(weight) for lot, weight in mix if e in lot),
                                             fraction(row[e]))
                expected = (is_mix_of(family.lots, fractions(play.ours))
                            and is_mix_of((~family).lots, fractions(play.theirs)))
                self.assertIs(play.is_bare(), expected)
                turned = Play(~family, play.theirs, play.ours)
                self.assertIs(turned.is_bare(), expected)
                seen[expected] += 1
        self.assertGreater(min(seen.values()), 30)

    def test_bare_edges(self):
        self.assertIs(Play(ring(3), [1, 1, 0], [1, 0, 1]).is_bare(), True)
        self.assertIs(Play(ring(3), [1, 1, 1], [1, 0, 1]).is_bare(), False)
        self.assertIs(Play(ring(3), Row([2, 2, 2], 3), Row([2, 2, 2], 3)).is_bare(), True)
        self.assertIs(Play(ring(3), Row([4, 2, 1], 3), [1, 1, 0]).is_bare(), False)
        # the sum fits, but no mix of lots has this row
        family = Family(4, [(0, 1), (2, 3)])
        self.assertIs(Play(family, Row([1, 1, 1, 1], 2), [1, 0, 1, 0]).is_bare(), True)
        self.assertIs(Play(family, Row([2, 1, 1, 1], 2), [1, 0, 1, 0]).is_bare(), False)
        useless = Family(3, [(0, 1)])
        self.assertIs(Play(useless, [1, 1, 1], [1, 0, 0]).is_bare(), False)
        self.assertIs(Play(useless, [1, 1, 0], [1, 0, 1]).is_bare(), False)
        self.assertIs(Play(useless, [1, 1, 0], Row([1, 3, 0], 4)).is_bare(), True)


class SteadyTest(Case):
    """Points 79 to 81 and 86."""

    def test_there_and_back(self):
        rng = random.Random(1411)
        for family in pool(1412):
            costs = rng.choice([None, positive_row_of(rng, family.things)])
            row = Row.ones(family.things) if costs is None else costs
            tolls = contrary_of(row)
            for x, y in rng.sample(settled_pairs(family, tolls), 1) + [best_pair(family, tolls)]:
                play = Play.of_pair(family, x, y, costs=costs)
                self.assertIs(type(play), Play)
                v = 1 / sum_of(x, y, tolls)
                self.assertEqual(fractions(play.ours), [v * a / b for a, b in zip(fractions(y), fractions(row))])
                self.assertEqual(fractions(play.theirs), [v * a / b for a, b in zip(fractions(x), fractions(row))])
                self.assertEqual((play.family, play.costs), (family, row))
                self.assert_same(play.mean(), amount_of(v))
                self.assertIs(play.is_steady(), True)
                found = play.pair_of()
                self.assertIs(type(found), tuple)
                self.assertEqual(found, (x, y))
                self.assertTrue(is_settled(family, *found, tolls=tolls))

    def test_pair_of_other_plays(self):
        rng = random.Random(1413)
        seen = {True: 0, False: 0}
        for family in pool(1414):
            for _ in range(4):
                costs = rng.choice([Row.ones(family.things), positive_row_of(rng, family.things, 2, 1)])
                play = random_play(rng, family, costs)
                seen[play.is_steady()] += 1
                if not play.is_steady():
                    self.assert_error(BadPlay("steady"), play.pair_of)
                    continue
                x, y = play.pair_of()
                share = 1 / fraction(play.mean())
                self.assertEqual(fractions(x), [share * a for a in fractions(costs * play.theirs)])
                self.assertEqual(fractions(y), [share * a for a in fractions(costs * play.ours)])
                self.assertEqual(Play.of_pair(family, x, y, costs=costs), play)
                self.assertEqual(sum_of(x, y, contrary_of(costs)), share)
        self.assertGreater(min(seen.values()), 15)

    def test_worst(self):
        rng = random.Random(1415)
        for family in pool(1416) + [votes(4, 7), seven_lines(), fan(7)]:
            play = Play.worst(family)
            self.assertIs(type(play), Play)
            self.assertTrue(play.is_steady())
            self.assert_same(play.mean(), strain(family))
            self.assertEqual(play.pair_of(), best_pair(family, [1] * family.things))
            costs = positive_row_of(rng, family.things)
            tolls = contrary_of(costs)
            play = Play.worst(family, costs=costs)
            self.assertEqual(play, Play.of_pair(family, *best_pair(family, tolls), costs=costs))
            self.assertEqual(fraction(play.mean()), 1 / fraction(price(family, tolls)))
            self.assertEqual(play.costs, costs)
            greatest = max(fraction(costs[e]) for e in family.useful)
            if is_calm(family):
                self.assertEqual(fraction(play.mean()), greatest)
            for x, y in settled_pairs(family, tolls)[:6]:
                other = Play.of_pair(family, x, y, costs=costs)
                self.assertLessEqual(fraction(other.mean()), fraction(play.mean()))

    def test_means_without_costs(self):
        for family in pool(1417):
            means = {1 / sum_of(x, y) for x, y in settled_pairs(family, [1] * family.things)}
            self.assertIn(1, means)
            self.assertIs(means == {1}, is_calm(family))
            a, b = next((a, b) for a in family for b in ~family if len(set(a) & set(b)) == 1)
            play = Play(family, Row.of_set(a, family.things), Row.of_set(b, family.things))
            self.assertTrue(play.is_steady() and play.is_bare())
            self.assertEqual(play.mean(), (1, 1))

    def test_top(self):
        for k, n in ((2, 3), (3, 5), (2, 4), (3, 4), (4, 7), (3, 6), (4, 6)):
            family = votes(k, n)
            most = fraction(strain(family))
            for x, y in settled_pairs(family, [1] * n):
                if 1 / sum_of(x, y) == most:
                    play = Play.of_pair(family, x, y)
                    self.assertEqual((play.ours, play.theirs), (Row([k] * n, n), Row([n + 1 - k] * n, n)))

    def test_no_mean_above_the_top(self):
        reached = 0
        for family in pool(1419) + [votes(2, 4), Family(5, votes(2, 3).lots), Family(4, votes(3, 4).lots)]:
            u = len(family.useful)
            middle = ((u + 1) // 2,) if u % 2 else (u // 2, u // 2 + 1)
            kinds = [{tuple(lot) for lot in combinations(family.useful, k)} for k in middle]
            for x, y in settled_pairs(family, [1] * family.things):
                mean = 1 / sum_of(x, y)
                self.assertLessEqual(mean, fraction(strain_top(u)))
                if u >= 3 and mean == fraction(strain_top(u)):
                    self.assertIn(set(family.lots), kinds)
                    k = family.least_size()
                    play = Play.of_pair(family, x, y)
                    everything = Row.of_set(family.useful, family.things)
                    self.assertEqual(play.ours, everything.scaled((k, u)))
                    self.assertEqual(play.theirs, everything.scaled((u + 1 - k, u)))
                    reached += 1
        self.assertGreater(reached, 3)

    def test_bare_plays_need_not_reach_the_strain(self):
        family = Family(4, [(0, 1), (0, 2), (0, 3), (1, 2)])
        self.assertEqual(strain(family), (4, 3))
        self.assertTrue(all(len({0, 3} & set(b)) == 1 for b in ~family))
        self.assertIs(Play.worst(family).is_bare(), False)
        bare = 0
        for x, y in settled_pairs(family, [1] * 4):
            play = Play.of_pair(family, x, y)
            if play.is_bare():
                self.assertEqual(play.mean(), (1, 1))
                bare += 1
        self.assertGreater(bare, 0)
        for other in rich_families(1418, 30, 3, 6):
            for x, y in settled_pairs(other, [1] * other.things)[:8]:
                play = Play.of_pair(other, x, y)
                if play.is_bare():
                    self.assertLessEqual(fraction(play.mean()), fraction(strain(other)))


class ErrorsTest(Case):
    """The errors, each in its order."""

    def test_play(self):
        family = Family(3, [(0, 1), (2,)])
        self.assert_row_errors(3, lambda row: Play(family, row, None, costs=0))
        self.assert_row_errors(3, lambda row: Play(family, [0, 0, 0], row, costs=0))
        self.assert_positive_row_errors(3, lambda row: Play(family, [0, 0, 0], [0, 0, 0], costs=row), True)
        self.assert_error(BadPlay("ours"), Play, family, [0, 0, 0], [0, 0, 0])
        self.assert_error(BadPlay("theirs"), Play, family, [0, 0, 1], [0, 0, 1])
        self.assertEqual(Play(family, [0, 0, 1], [0, 1, 1]).mean(), (1, 1))
        with self.assertRaises(TypeError):
            Play(family, [1, 1, 1], [1, 1, 1], [1, 1, 1])

    def test_worst(self):
        self.assert_positive_row_errors(3, lambda row: Play.worst(Family(3, [(0, 1)]), costs=row), True)
        self.assert_error(TooMany(7), Play.worst, ring(8))
        self.assert_error(TooMany(7), Play.worst, ring(8), costs=[1] * 8)
        self.assert_error(OtherSize(7), Play.worst, ring(8), costs=[1] * 7)

    def test_of_pair(self):
        family = Family(3, [(0, 1), (2,)])
        self.assert_row_errors(3, lambda row: Play.of_pair(family, row, None, costs=0))
        self.assert_row_errors(3, lambda row: Play.of_pair(family, [0, 0, 0], row, costs=0))
        self.assert_positive_row_errors(3, lambda row: Play.of_pair(family, [0, 0, 0], [0, 0, 0], costs=row), True)
        self.assert_error(NotCover((0, 1)), Play.of_pair, family, [0, 0, 0], [0, 0, 0])
        self.assert_error(NotCover((2,)), Play.of_pair, family, [0, 1, 0], [0, 0, 0])
        self.assert_error(NotCover((0, 2)), Play.of_pair, family, [0, 1, 1], [0, 0, 0])
        self.assert_error(BadPlay("settled"), Play.of_pair, family, [1, 1, 2], [0, 0, 1])
        half = Row([1, 1, 1], 2)
        self.assert_error(BadPlay("settled"), Play.of_pair, ring(3), half, [1, 1, 1])
        self.assertEqual(Play.of_pair(ring(3), half, half).mean(), (4, 3))
        # whether a pair is settled depends on the costs
        rng = random.Random(1421)
        seen = {True: 0, False: 0}
        for other in rich_families(1422, 30, 3, 5):
            for x, y in settled_pairs(other, [1] * other.things)[:4]:
                costs = positive_row_of(rng, other.things)
                fine = is_settled(other, x, y, tolls=contrary_of(costs))
                seen[fine] += 1
                if not fine:
                    self.assert_error(BadPlay("settled"), Play.of_pair, other, x, y, costs=costs)
        self.assertGreater(min(seen.values()), 10)

    def test_any_size(self):
        rng = random.Random(1423)
        family = ring(59)
        edge = Row.of_set([0, 1], 59)
        big = 10 ** 40
        self.assert_error(BadPlay("ours"), Play, family, Row([big - 1, big] + [0] * 57, big), edge)
        small = Family(60, [(0, 1), (1, 2), (0, 2), (58, 59)])
        costs = Row([rng.randint(1, big) for _ in range(60)], big - 1)
        play = Play.worst(small, costs=costs)
        self.assertTrue(play.is_steady())
        self.assertEqual(Play.of_pair(small, *play.pair_of(), costs=costs), play)
        seven = useless_beside(votes(4, 7), [0, 9, 18, 27, 36, 45, 59], 60)
        play = Play.worst(seven, costs=costs)
        self.assertEqual(fraction(play.mean()), 1 / fraction(price(seven, contrary_of(costs))))
        self.assertIsNone(play.better())
        many = random_family(rng, 12, 40)
        plain = Play(many, [1] * 12, [1] * 12)
        self.assertEqual(plain.mean(), (12, 1))
        self.assertIs(plain.is_bare(), False)
        self.assertEqual(Fraction(12), fraction(plain.mean()))


if __name__ == "__main__":
    unittest.main()
