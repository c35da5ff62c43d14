"""Points 10 and 15: the shapes; and the worked example under putting.py."""

import unittest
from itertools import combinations, product

from shortbynarrow.errors import BadNumber
from shortbynarrow.families import Family
from shortbynarrow.putting import put_in
from shortbynarrow.shapes import block, fan, four_points, ring, seven_lines, votes
from tests.brute import NOT_NUMBERS
from tests.cases import Case


class ShapesTest(Case):
    """Lots, blockers, sizes."""

    def test_votes(self):
        for n in range(1, 8):
            for k in range(1, n + 1):
                self.assert_same(votes(k, n).lots, tuple(combinations(range(n), k)))
                self.assertEqual(votes(k, n).things, n)
                self.assertEqual(~votes(k, n), votes(n + 1 - k, n))
        self.assertEqual(votes(1, 1), Family.single())
        self.assertEqual(votes(60, 60).lots, (tuple(range(60)),))
        self.assertEqual(votes(1, 60).lots, tuple((e,) for e in range(60)))
        self.assertEqual(len(votes(59, 60)), 60)

    def test_wrong_votes(self):
        for wrong in NOT_NUMBERS + [0, 61, -1]:
            self.assert_error(BadNumber("k"), votes, wrong, None)
            self.assert_error(BadNumber("n"), votes, 1, wrong)
        self.assert_error(BadNumber("n"), votes, 3, 2)
        self.assert_error(BadNumber("n"), votes, 60, 59)
        self.assert_error(BadNumber("n"), votes, 60, 61)

    def test_ring(self):
        self.assertEqual(ring(3), votes(2, 3))
        self.assertEqual(ring(5).lots, ((0, 1), (0, 4), (1, 2), (2, 3), (3, 4)))
        self.assertEqual(ring(60).things, 60)
        self.assertEqual(len(ring(60)), 60)
        self.assertIn((0, 59), ring(60))
        for wrong in NOT_NUMBERS + [2, 61, 0, -3]:
            self.assert_error(BadNumber("n"), ring, wrong)

    def test_fan(self):
        self.assertEqual(fan(3), votes(2, 3))
        self.assertEqual(fan(5).lots, ((0, 1), (0, 2), (0, 3), (0, 4), (1, 2, 3, 4)))
        self.assertEqual((fan(60).things, len(fan(60))), (60, 60))
        for m in (3, 4, 5, 8, 60):
            self.assertEqual(~fan(m), fan(m))
        for wrong in NOT_NUMBERS + [2, 61]:
            self.assert_error(BadNumber("m"), fan, wrong)

    def test_points_and_lines(self):
        self.assertEqual(four_points(), Family(6, [(0, 1, 2), (0, 3, 4), (1, 3, 5), (2, 4, 5)]))
        pairs = [(0, 5), (1, 4), (2, 3)]
        self.assertEqual(~four_points(), Family(6, pairs + list(four_points().lots)))
        self.assertEqual(len(~four_points()), 7)
        lines = [[i, (i + 1) % 7, (i + 3) % 7] for i in range(7)]
        self.assertEqual(seven_lines(), Family(7, lines))
        self.assertEqual(~seven_lines(), seven_lines())
        for one, two in combinations(seven_lines().lots, 2):
            self.assertEqual(len(set(one) & set(two)), 1)

    def test_block(self):
        for l, w in ((1, 1), (1, 5), (5, 1), (2, 3), (3, 2), (3, 4), (7, 2), (60, 1), (1, 60)):
            rows = [range(i * w, i * w + w) for i in range(l)]
            self.assertEqual(block(l, w).lots, tuple(product(*rows)))
            self.assertEqual(block(l, w).things, l * w)
            self.assertEqual(~block(l, w), Family(l * w, [list(row) for row in rows]))
        for wrong in NOT_NUMBERS + [0, 61, -1]:
            self.assert_error(BadNumber("l"), block, wrong, None)
            self.assert_error(BadNumber("w"), block, 1, wrong)
        self.assert_error(BadNumber("w"), block, 31, 2)
        self.assert_error(BadNumber("w"), block, 60, 2)
        self.assert_error(BadNumber("w"), block, 2, 10 ** 40)

    def test_new_each_time(self):
        self.assertIsNot(ring(4), ring(4))
        self.assertEqual(type(ring(4)), Family)

    def test_putting_example(self):
        made = put_in(votes(2, 3), [Family.single(), Family.single(), votes(1, 2)])
        self.assertEqual(made.lots, ((0, 1), (0, 2), (0, 3), (1, 2), (1, 3)))


if __name__ == "__main__":
    unittest.main()
