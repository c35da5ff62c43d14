"""Points 1 and 5: rows."""

import random
import unittest
from fractions import Fraction

from shortbynarrow.errors import BadAmount, BadNumber, BadRow, BadSet, BadThing, OtherSize
from shortbynarrow.rows import Row, row_of, whole_row
from tests.brute import NOT_LISTS, NOT_NUMBERS, amount_of, fractions
from tests.cases import Case

LONG = 10 ** 39 + 1


def random_row(rng, size, most=6):
    """Return a random row."""
    return Row([rng.randint(0, most) for _ in range(size)], rng.randint(1, most))


class MakingTest(Case):
    """How rows are made."""

    def test_example(self):
        x = Row([2, 4], 6)
        self.assertEqual((x.tops, x.bottom, (x + x).tops, list(3 * x), x.dot([1, 1])),
                         ((1, 2), 3, (2, 4), [(1, 1), (2, 1)], (1, 1)))

    def test_least_terms(self):
        row = Row((0, 0), 5)
        self.assertEqual((row.tops, row.bottom), ((0, 0), 1))
        row = Row([4, 6, 0], 8)
        self.assertEqual((row.tops, row.bottom), ((2, 3, 0), 4))
        row = Row([2 * LONG, 4 * LONG], 6 * LONG)
        self.assertEqual((row.tops, row.bottom), ((1, 2), 3))
        self.assertIs(Row([1, 2]).is_whole, True)
        self.assertIs(Row([2, 4], 2).is_whole, True)
        self.assertIs(Row([2, 3], 2).is_whole, False)
        tops = [1, 2]
        row = Row(tops)
        tops[0] = 9
        self.assertEqual(row.tops, (1, 2))
        self.assertIs(type(row.tops), tuple)

    def test_wrong_rows(self):
        for wrong in NOT_LISTS + [[], (), Row([1])]:
            self.assert_error(BadRow(-1), Row, wrong)
            self.assert_error(BadRow(-1), Row, wrong, "bottom")
        for wrong in [-1, None, True, False, "1", 1.0, (1, 2), [1]]:
            self.assert_error(BadRow(0), Row, [wrong, -1])
            self.assert_error(BadRow(1), Row, (0, wrong), 0)
        for wrong in NOT_NUMBERS + [0, -1]:
            self.assert_error(BadNumber("bottom"), Row, [1, 2], wrong)

    def test_class_methods(self):
        self.assertEqual(Row.ones(3), Row([1, 1, 1]))
        self.assertEqual(Row.of_set([2, 0], 4), Row([1, 0, 1, 0]))
        self.assertEqual(Row.of_set((), 2), Row([0, 0]))
        row = Row.of_amounts([(1, 2), [2, 6], 1, (0, 7)])
        self.assertEqual((row.tops, row.bottom), ((3, 2, 6, 0), 6))
        self.assertEqual(Row.of_amounts([(LONG, 2 * LONG)]), Row([1], 2))
        for made in (Row.ones(2), Row.of_set([0], 1), row):
            self.assertIs(type(made), Row)

    def test_class_methods_wrong(self):
        for wrong in NOT_NUMBERS + [0, -1]:
            self.assert_error(BadNumber("size"), Row.ones, wrong)
            self.assert_error(BadNumber("size"), Row.of_set, None, wrong)
        self.assert_error(BadSet(-1), Row.of_set, 3, 2)
        self.assert_error(BadSet(1), Row.of_set, [1, 2], 2)
        self.assert_error(BadSet(1), Row.of_set, [1, 1], 2)
        for wrong in NOT_LISTS + [[], ()]:
            self.assert_error(BadRow(-1), Row.of_amounts, wrong)
        for wrong in [None, -1, True, (1, 0), (1,), "a", 0.5, Row([1])]:
            self.assert_error(BadRow(1), Row.of_amounts, [(1, 2), wrong, wrong])

    def test_row_of(self):
        row = Row([1, 2], 3)
        self.assertIs(row_of(row, 2), row)
        self.assertEqual(row_of((1, 2), 2), Row([1, 2]))
        self.assert_error(OtherSize(2), row_of, row, 3)
        self.assert_error(OtherSize(1), row_of, [5], 3)
        self.assert_error(BadRow(1), row_of, [5, -1], 3)
        self.assert_error(BadRow(-1), row_of, [], 3)
        self.assert_error(BadRow(0), row_of, [(1, 2)], 1)

    def test_whole_row(self):
        self.assertEqual(whole_row([3, 0], 2), Row([3, 0]))
        self.assertEqual(whole_row(Row([4, 2], 2), 2), Row([2, 1]))
        self.assert_error(BadRow(1), whole_row, Row([2, 1, 1], 2), 3)
        self.assert_error(BadRow(1), whole_row, Row([2, 1, 1], 2), 5)
        self.assert_error(OtherSize(3), whole_row, Row([2, 1, 1]), 5)
        self.assert_error(OtherSize(1), whole_row, [2], 5)
        self.assert_error(BadRow(0), whole_row, [-2], 5)


class OperatorsTest(Case):
    """What rows do."""

    def test_against_fractions(self):
        rng = random.Random(5)
        for _ in range(200):
            size = rng.randint(1, 5)
            most = rng.choice([6, 10 ** 40])
            x, y = random_row(rng, size, most), random_row(rng, size, most)
            a, b = fractions(x), fractions(y)
            k = rng.randint(0, 5)
            things = rng.sample(range(size), rng.randint(0, size))
            self.assertEqual(fractions(x + y), [p + q for p, q in zip(a, b)])
            self.assertEqual(fractions(x * y), [p * q for p, q in zip(a, b)])
            self.assertEqual(fractions(k * x), [k * p for p in a])
            self.assertEqual(fractions(x * k), [k * p for p in a])
            self.assert_same(x.at(things), amount_of(sum((a[e] for e in things), Fraction(0))))
            self.assert_same(x.total(), amount_of(sum(a)))
            self.assert_same(x.dot(y), amount_of(sum(p * q for p, q in zip(a, b))))
            self.assertIs(x.covers_row(y), all(p >= q for p, q in zip(a, b)))
            self.assert_same(x.support(), tuple(e for e in range(size) if a[e] > 0))
            self.assertEqual(fractions(x.scaled((k, 7))), [p * Fraction(k, 7) for p in a])
            thing = rng.randrange(size)
            changed = a[:thing] + [Fraction(k, 3)] + a[thing + 1:]
            self.assertEqual(fractions(x.with_entry(thing, [k, 3])), changed)
            self.assertEqual(fractions(x), a)

    def test_equal(self):
        self.assertTrue(Row([1, 2], 3) == Row([2, 4], 6))
        self.assertFalse(Row([1, 2]) == Row([1, 2, 0]))
        self.assertTrue(Row([1, 2]) != Row([1, 2], 3))
        for other in [[1, 2], (1, 2), ((1, 1), (2, 1)), None, 1]:
            self.assertFalse(Row([1, 2]) == other)
        self.assertEqual(len(Row([1, 2, 3])), 3)

    def test_entries(self):
        row = Row([2, 0, 3], 4)
        self.assertEqual([row[0], row[1], row[2]], [(1, 2), (0, 1), (3, 4)])
        self.assertEqual(list(row), [(1, 2), (0, 1), (3, 4)])
        # over and over again, and two at a time
        self.assertEqual([list(row), tuple(row), [*row]], [[(1, 2), (0, 1), (3, 4)], ((1, 2), (0, 1), (3, 4)), list(row)])
        self.assertEqual(list(zip(row, row)), [((1, 2), (1, 2)), ((0, 1), (0, 1)), ((3, 4), (3, 4))])
        self.assertEqual([(0, 1) in row, (2, 4) in row, 0 in row], [True, False, False])
        steps = iter(row)
        self.assertEqual([next(steps), next(steps), next(steps), next(steps, None)], [*row, None])
        for wrong in [-1, 3, True, False, None, "0", 1.0, (0,), 10 ** 40, slice(0, 1)]:
            with self.assertRaises(IndexError):
                row[wrong]

    def test_errors(self):
        row = Row([1, 2], 3)
        self.assert_error(OtherSize(3), lambda: row + Row([1, 1, 1]))
        self.assert_error(OtherSize(1), lambda: row * Row([1]))
        self.assert_error(BadSet(-1), row.at, 3)
        self.assert_error(BadSet(1), row.at, [0, 2])
        for call in (row.dot, row.covers_row):
            self.assert_error(BadRow(-1), call, None)
            self.assert_error(BadRow(1), call, [1, True, 1])
            self.assert_error(OtherSize(3), call, [1, 1, 1])
            self.assert_error(OtherSize(1), call, Row([1], 2))
        self.assertIs(row.covers_row([0, 0]), True)
        self.assertIs(row.covers_row((0, 1)), False)
        for wrong in [None, -1, True, "1", (1, 0), 0.5]:
            self.assert_error(BadAmount("amount"), row.scaled, wrong)
            self.assert_error(BadAmount("amount"), row.with_entry, 1, wrong)
        for wrong in [-1, 2, None, True, "0", 0.0]:
            self.assert_error(BadThing(wrong), row.with_entry, wrong, None)


if __name__ == "__main__":
    unittest.main()
