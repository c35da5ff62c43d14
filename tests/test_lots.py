"""Points 1, 4, 6 and 7: sets, the least ones of a list of sets, and the sets that meet all."""

import random
import unittest

from shortbynarrow.errors import BadNumber, BadSet
from shortbynarrow.lots import blocker_lots, least_lots, set_of
from tests.brute import NOT_LISTS, NOT_NUMBERS, blocker_of, least_sets, subsets
from tests.cases import Case

LONG = 10 ** 39


class SetsTest(Case):
    """Point 4."""

    def test_any_order(self):
        self.assert_same(set_of([2, 0, 1], 3), (0, 1, 2))
        self.assert_same(set_of((4, 3), 5), (3, 4))
        self.assert_same(set_of([], 1), ())
        self.assert_same(set_of((), 60), ())
        self.assert_same(set_of([LONG, 5], LONG + 1), (5, LONG))
        things = [2, 0]
        set_of(things, 3)
        self.assertEqual(things, [2, 0])

    def test_wrong_size_first(self):
        for wrong in NOT_NUMBERS + [0, -3]:
            self.assert_error(BadNumber("size"), set_of, [0], wrong)
            self.assert_error(BadNumber("size"), set_of, "no list", wrong)

    def test_wrong_sets(self):
        for wrong in NOT_LISTS:
            self.assert_error(BadSet(-1), set_of, wrong, 3)
        for wrong in [-1, 3, 10 ** 40, None, True, False, "1", 1.0, [1], (0,), {}]:
            self.assert_error(BadSet(0), set_of, [wrong], 3)
            self.assert_error(BadSet(1), set_of, (2, wrong, 2), 3)
        self.assert_error(BadSet(2), set_of, [1, 0, 1, 7], 3)
        self.assert_error(BadSet(1), set_of, [0, 0], 3)
        self.assert_error(BadSet(1), set_of, [1, True], 3)
        self.assert_error(BadSet(1), set_of, [1, 7, 1], 3)


class LeastTest(Case):
    """Point 6, and point 7 without families."""

    def test_edges(self):
        self.assert_same(least_lots([]), ())
        self.assert_same(least_lots(()), ())
        self.assert_same(least_lots([[], [1]]), ((),))
        self.assert_same(least_lots([[2, 1], (1, 2), [0, 1, 2], [3]]), ((1, 2), (3,)))
        self.assert_same(least_lots([[LONG, 3], [3, LONG, 0], [7]]), ((3, LONG), (7,)))
        self.assert_same(blocker_lots([]), ((),))
        self.assert_same(blocker_lots([[]]), ())
        self.assert_same(blocker_lots([[0], []]), ())
        self.assert_same(blocker_lots([[5, 2]]), ((2,), (5,)))
        self.assert_same(blocker_lots([[0, 1], (1, 2), [1]]), ((1,),))
        self.assert_same(blocker_lots([[LONG, 3], [3, 4]]), ((3,), (4, LONG)))

    def test_against_definition(self):
        rng = random.Random(11)
        sets = subsets(range(5))
        for _ in range(300):
            lots = [rng.sample(s, len(s)) for s in rng.sample(sets, rng.randint(0, 7))]
            before = [list(lot) for lot in lots]
            self.assert_same(least_lots(lots), least_sets(lots))
            self.assert_same(blocker_lots(lots), blocker_of(lots, 5))
            self.assertEqual(lots, before)

    def test_great_lists(self):
        pairs = [[2 * k, 2 * k + 1] for k in range(7)]
        blocks = blocker_lots(pairs)
        self.assertEqual(len(blocks), 128)
        self.assertEqual(blocker_lots(blocks), tuple(tuple(pair) for pair in pairs))
        rng = random.Random(5)
        lots = least_lots([sorted(rng.sample(range(14), rng.randint(4, 8))) for _ in range(200)])
        self.assertEqual(blocker_lots(blocker_lots(lots)), lots)
        wide = [sorted(rng.sample(range(60), 58)) for _ in range(200)]
        self.assertEqual(blocker_lots(blocker_lots(wide)), least_lots(wide))


if __name__ == "__main__":
    unittest.main()
