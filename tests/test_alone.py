"""Points 27 and 28: lots that are alone."""

import random
import unittest
from fractions import Fraction

from shortbynarrow.alone import alone, two_mixes
from shortbynarrow.errors import BadLots, NoLots
from shortbynarrow.families import Family
from shortbynarrow.lengths import shortest
from shortbynarrow.rows import Row
from shortbynarrow.shapes import ring, seven_lines, votes
from tests.brute import NOT_LISTS, fraction, is_amount, some_families, subsets
from tests.cases import Case


class AloneTest(Case):
    """Each answer is shown by the lengths or by the two mixes."""

    def check(self, family, lots):
        """Check both functions on some lots; return whether they are alone."""
        lengths, mixes = alone(family, lots), two_mixes(family, lots)
        self.assertEqual(lengths is None, mixes is not None)
        if lengths is not None:
            self.assertIs(type(lengths), Row)
            self.assertEqual(len(lengths), family.things)
            self.assertEqual(list(shortest(family, lengths)), sorted(tuple(sorted(lot)) for lot in lots))
            return True
        self.assertIs(type(mixes), tuple)
        self.assertEqual(len(mixes), 2)
        sums = []
        for mix in mixes:
            self.assertIs(type(mix), tuple)
            self.assertEqual([lot for lot, _ in mix], sorted({lot for lot, _ in mix}))
            self.assertTrue(all(type(entry) is tuple and is_amount(entry[1]) for entry in mix))
            self.assertTrue(all(weight[0] > 0 and lot in family for lot, weight in mix))
            self.assertEqual(sum(fraction(weight) for _, weight in mix), 1)
            sums.append([sum((fraction(w) for lot, w in mix if e in lot), Fraction(0))
                         for e in range(family.things)])
        chosen = {tuple(sorted(lot)) for lot in lots}
        self.assertTrue(all(lot in chosen for lot, _ in mixes[0]))
        self.assertTrue(any(lot not in chosen for lot, _ in mixes[1]))
        self.assertTrue(all(one >= two for one, two in zip(*sums)))
        return False

    def test_example(self):
        self.assertEqual((alone(ring(4), [(0, 1), (2, 3)]), two_mixes(ring(4), [(0, 1)])), (None, None))

    def test_random(self):
        for family in some_families(91, 60, most_things=5, most_lots=6):
            shown = [set(some) for some in subsets(family.lots) if some and self.check(family, some)]
            for lot in family.lots:
                self.assertIn({lot}, shown)
            self.assertIn(set(family.lots), shown)
            for one in shown:
                for two in shown:
                    if one & two:
                        self.assertIn(one & two, shown)

    def test_shapes(self):
        self.assertTrue(self.check(ring(4), [[1, 0], (2, 1)]))
        self.assertFalse(self.check(ring(4), [[3, 2], [1, 0]]))
        self.assertFalse(self.check(ring(4), [(0, 1), (0, 3), (1, 2)]))
        self.assertTrue(self.check(Family(3, [(1,)]), [[1]]))
        self.assertTrue(self.check(seven_lines(), [lot for lot in seven_lines().lots if 3 in lot]))
        one, two = alone(ring(5), [(1, 2), (0, 1)]), alone(ring(5), ([1, 0], [2, 1]))
        self.assertEqual(one, two)

    def test_great_families(self):
        rng = random.Random(92)
        family = Family(60, [rng.sample(range(60), rng.randint(3, 8)) for _ in range(200)])
        self.assertTrue(self.check(family, list(family.lots)))
        self.assertTrue(self.check(family, [family.lots[50]]))
        self.check(family, rng.sample(family.lots, 60))
        self.check(votes(2, 20), [(e, e + 1) for e in range(19)])
        self.check(ring(60), [(e, e + 1) for e in range(0, 60, 2)])

    def test_errors(self):
        family = ring(4)
        for call in (alone, two_mixes):
            for wrong in NOT_LISTS:
                self.assert_error(BadLots(-1), call, family, wrong)
            for wrong in NOT_LISTS + [[], [0], [0, 2], [0, 1, 1], (0, 1, 2), [0, 4], [0, True], [1, 2]]:
                self.assert_error(BadLots(1), call, family, [(2, 1), wrong, None])
            self.assert_error(BadLots(2), call, family, ([1, 0], [1, 2], (0, 1)))
            self.assert_error(BadLots(2), call, family, ([0, 1], [1, 2], (1, 0)))
            self.assert_error(NoLots(), call, family, [])
            self.assert_error(NoLots(), call, family, ())


if __name__ == "__main__":
    unittest.main()
