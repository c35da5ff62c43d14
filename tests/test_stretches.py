"""Point 136: stretches."""

import random
import unittest

from shortbynarrow.errors import BadNumber, BadStretch
from shortbynarrow.rows import Row
from shortbynarrow.stretches import Stretches
from tests.brute import NOT_LISTS, NOT_NUMBERS, fraction
from tests.cases import Case


def random_stretches(rng, size, most=4):
    """Return random stretches, of which some are seen."""
    ends = []
    for _ in range(size):
        low = rng.randint(0, most)
        ends.append((low, low + rng.choice([0, rng.randint(0, most)])))
    return Stretches(ends)


class StretchesTest(Case):
    """The class and its methods."""

    def test_attributes(self):
        ends = [[1, 2], (0, 0), [5, 10 ** 40]]
        found = Stretches(ends)
        self.assert_same(found.ends, ((1, 2), (0, 0), (5, 10 ** 40)))
        ends[0][0] = 9
        ends.clear()
        self.assertEqual(found.ends, ((1, 2), (0, 0), (5, 10 ** 40)))
        self.assertEqual(len(found), 3)
        self.assertEqual((found.lows(), found.highs()), (Row([1, 0, 5]), Row([2, 0, 10 ** 40])))
        self.assertTrue(found.lows().is_whole and found.highs().is_whole)
        self.assert_same(found.seen(), (1,))
        self.assertEqual(Stretches(((3, 3),)).seen(), (0,))
        self.assertEqual(Stretches([(0, 1)]).seen(), ())

    def test_rows(self):
        rng = random.Random(3201)
        for _ in range(100):
            size = rng.randint(1, 8)
            found = random_stretches(rng, size)
            self.assertEqual(found.lows().tops, tuple(low for low, _ in found.ends))
            self.assertEqual(found.highs().tops, tuple(high for _, high in found.ends))
            self.assertEqual(found.seen(), tuple(e for e, (low, high) in enumerate(found.ends) if low == high))
            row = Row([rng.randint(0, 16) for _ in range(size)], rng.randint(1, 3))
            due = all(low <= fraction(row[e]) <= high for e, (low, high) in enumerate(found.ends))
            self.assertIs(found.agrees(row), due)
            self.assertIs(found.agrees(found.lows()), True)
            self.assertIs(found.agrees(list(found.highs().tops)), True)

    def test_agrees(self):
        found = Stretches([(1, 2), (0, 3)])
        for row, due in (((1, 0), True), ([2, 3], True), (Row([3, 1], 2), True), (Row([5, 1], 2), False),
                         (Row([1, 1], 2), False), ([0, 0], False), ([1, 4], False), (Row([4, 6], 2), True)):
            self.assertIs(found.agrees(row), due)

    def test_asked(self):
        found = Stretches([(1, 4), (0, 3), (2, 2)])
        for thing, toll in ((0, 1), (0, 4), (0, 2), (1, 0), (1, 3), (2, 2)):
            made = found.asked(thing, toll)
            due = list(found.ends)
            due[thing] = (toll, toll)
            self.assertEqual(made, Stretches(due))
            self.assertIs(type(made), Stretches)
            self.assertIn(thing, made.seen())
        self.assertEqual(found.ends, ((1, 4), (0, 3), (2, 2)))

    def test_equality(self):
        found = Stretches([(1, 4), (0, 3)])
        self.assertTrue(found == Stretches(([1, 4], [0, 3])))
        for other in (Stretches([(1, 4)]), Stretches([(1, 4), (0, 2)]), Stretches([(0, 3), (1, 4)]), found.ends,
                      list(found.ends), None, 5, Stretches, Row([1, 4])):
            self.assertIs(found == other, False)
            self.assertTrue(found != other)

    def test_wrong_ends(self):
        for wrong in NOT_LISTS + [[], (), Row([1, 2])]:
            self.assert_error(BadStretch(-1), Stretches, wrong)
        entries = [None, 5, "12", (), (1,), (1, 2, 3), (2, 1), (-1, 0), (0, -1), (True, 2), (0, True), (0.0, 1),
                   ("0", 1), (0, None), {0: 1, 1: 2}, [[0, 1]]]
        for wrong in entries:
            self.assert_error(BadStretch(0), Stretches, [wrong])
            self.assert_error(BadStretch(2), Stretches, [(0, 1), [7, 7], wrong, None])

    def test_errors(self):
        found = Stretches([(1, 4), (0, 3), (2, 2)])
        self.assert_row_errors(3, found.agrees)
        self.assert_thing_errors(3, lambda thing: found.asked(thing, None))
        for wrong in NOT_NUMBERS + [0, -1, 5, 10 ** 40]:
            self.assert_error(BadNumber("toll"), found.asked, 0, wrong)
        self.assert_error(BadNumber("toll"), found.asked, 2, 3)
        self.assert_error(BadNumber("toll"), found.asked, 2, (2, 1))


if __name__ == "__main__":
    unittest.main()
