"""Point 84: answers in turn."""

import inspect
import random
import unittest

from shortbynarrow.answers import answers_from, last_answer
from shortbynarrow.corners import cheapest_corner, corners_of
from shortbynarrow.errors import BadRow, OtherSize, TooMany
from shortbynarrow.families import Family
from shortbynarrow.rows import Row
from shortbynarrow.settling import is_settled
from shortbynarrow.shapes import ring, seven_lines, votes
from tests.brute import (
    all_families, amount_of, positive_row_of, rich_families, some_families, sum_of, useless_beside,
)
from tests.cases import Case


def first_cheapest(corners, row, tolls):
    """Return the first of the corners with the least sum."""
    sums = [sum_of(corner, row, tolls) for corner in corners]
    return corners[sums.index(min(sums))]


def answers_by_definition(family, y, tolls):
    """Return the pairs of the two sides in turn, the blocker first."""
    ours, theirs = corners_of(family), corners_of(~family)
    x = first_cheapest(ours, y, tolls)
    found = [(x, y, sum_of(x, y, tolls))]
    turn = "theirs"
    while True:
        if turn == "theirs":
            y = first_cheapest(theirs, x, tolls)
        else:
            x = first_cheapest(ours, y, tolls)
        value = sum_of(x, y, tolls)
        if value >= found[-1][2]:
            return found
        found.append((x, y, value))
        turn = "ours" if turn == "theirs" else "theirs"


class AnswersTest(Case):
    """The pairs in their order."""

    def test_example(self):
        x, y, total = last_answer(votes(2, 3), [1, 1, 0], [1, 1, 1])
        self.assertEqual([x.tops, y.tops, total], [(0, 1, 1), (1, 1, 0), (1, 1)])

    def test_against_the_definition(self):
        rng = random.Random(1501)
        counts = {}
        families = all_families(2) + some_families(1502, 30) + rich_families(1503, 80, 5, 7) + [seven_lines()]
        for family in families:
            for most in (1, 4, 9):
                tolls = positive_row_of(rng, family.things, most)
                y = rng.choice(corners_of(~family))
                expected = [(x, y, amount_of(value)) for x, y, value in answers_by_definition(family, y, tolls)]
                found = list(answers_from(family, y, tolls))
                self.assertEqual(found, expected)
                self.assertTrue(all(type(entry) is tuple and len(entry) == 3 for entry in found))
                self.assertTrue(all(type(row) is Row for entry in found for row in entry[:2]))
                self.assert_same([entry[2] for entry in found], [entry[2] for entry in expected])
                self.assertEqual(last_answer(family, y, tolls), found[-1])
                self.assertIs(type(last_answer(family, y, tolls)), tuple)
                self.assertTrue(is_settled(family, *found[-1][:2], tolls=tolls))
                self.assertEqual(found[0][:2], (cheapest_corner(family, tolls * y), y))
                self.assertLessEqual(len(found), len(corners_of(family)) * len(corners_of(~family)))
                counts[len(found)] = counts.get(len(found), 0) + 1
        self.assertGreater(counts[1], 20)
        self.assertGreater(counts[2], 20)
        self.assertGreater(sum(many for size, many in counts.items() if size >= 3), 3)

    def test_the_first_of_the_cheapest(self):
        # all whole corners of the ring are as cheap as each other
        found = list(answers_from(ring(4), [0, 0, 1, 1], (1, 1, 1, 1)))
        self.assertEqual(found, [(Row([0, 1, 0, 1]), Row([0, 0, 1, 1]), (1, 1))])
        found = list(answers_from(ring(3), Row([1, 1, 1], 2), [1, 1, 1]))
        self.assertEqual(found, [(Row([1, 1, 1], 2), Row([1, 1, 1], 2), (3, 4))])
        found = list(answers_from(ring(3), Row([1, 1, 1], 2), [3, 1, 1]))
        self.assertEqual(found, [(Row([0, 1, 1]), Row([1, 1, 1], 2), (1, 1))])

    def test_both_sides_answer(self):
        family = Family(4, [(0, 1), (0, 2), (0, 3), (1, 2)])
        longest = []
        for y in corners_of(~family):
            for tolls in ([5, 1, 9, 1], [1, 4, 2, 1], [9, 7, 5, 3], [2, 7, 3, 9]):
                found = list(answers_from(family, y, tolls))
                self.assertEqual(found, [(x, z, amount_of(value)) for x, z, value
                                         in answers_by_definition(family, y, Row(tolls))])
                longest = max(longest, found, key=len)
        self.assertGreaterEqual(len(longest), 2)
        self.assertEqual(longest[0][0], longest[1][0])
        self.assertNotEqual(longest[0][1], longest[1][1])

    def test_one_thing(self):
        found = list(answers_from(Family.single(), [1], Row([3], 2)))
        self.assertEqual(found, [(Row([1]), Row([1]), (3, 2))])


class GeneratorTest(Case):
    """The pairs are yielded one after another."""

    def test_one_after_another(self):
        found = answers_from(votes(2, 3), [1, 1, 0], [1, 1, 1])
        self.assertTrue(inspect.isgenerator(found))
        self.assertIs(iter(found), found)
        self.assertEqual(next(found), (Row([0, 1, 1]), Row([1, 1, 0]), (1, 1)))
        for _ in range(2):
            with self.assertRaises(StopIteration):
                next(found)
        self.assertEqual(list(found), [])

    def test_pairs_of_the_ring(self):
        found = answers_from(ring(5), [1, 1, 0, 0, 0], [10, 10, 1, 2, 1])
        first = next(found)
        self.assertEqual(first, (Row([0, 1, 0, 1, 1]), Row([1, 1, 0, 0, 0]), (10, 1)))
        rest = list(found)
        self.assertEqual([entry[2] for entry in rest], [(1, 1)])
        self.assertEqual(rest[0][0], first[0])
        self.assertEqual(last_answer(ring(5), [1, 1, 0, 0, 0], [10, 10, 1, 2, 1]), rest[0])

    def test_two_at_a_time(self):
        # neither of two iterations over the same lists knows of the other one
        row, tolls = [1, 1, 0, 0, 0], [10, 10, 1, 2, 1]
        one, two = answers_from(ring(5), row, tolls), answers_from(ring(5), row, tolls)
        first = next(one)
        self.assertEqual(list(two), [first, *one])


class ListsTest(Case):
    """Point 1: lists that are changed behind the first pair, and arguments that stay as they were."""

    def begun(self):
        """Return the lists that were handed in, the generator and its first pair."""
        row, tolls = [1, 1, 0, 0, 0], [10, 10, 1, 2, 1]
        found = answers_from(ring(5), row, tolls)
        return row, tolls, found, next(found)

    def test_each_entry_changed(self):
        due = list(answers_from(ring(5), [1, 1, 0, 0, 0], [10, 10, 1, 2, 1]))
        self.assertEqual(len(due), 2)
        for place in range(5):
            for value in (0, 7, -1, None):
                row, tolls, found, first = self.begun()
                row[place] = value
                tolls[place] = value
                self.assertEqual([first, *found], due)

    def test_emptied_or_longer(self):
        due = list(answers_from(ring(5), [1, 1, 0, 0, 0], [10, 10, 1, 2, 1]))
        row, tolls, found, first = self.begun()
        row.clear()
        tolls.append(0)
        self.assertEqual([first, *found], due)
        row, tolls, found, first = self.begun()
        row.append(1)
        tolls.clear()
        self.assertEqual([first, *found], due)

    def test_lists_are_read_at_the_first_step(self):
        cases = [
            ([1, -1, 0], [1, 1, 1], BadRow(1)), ([1, 1], [1, 1, 1], OtherSize(2)),
            ([], [1, 1, 1], BadRow(-1)), ([1, 0, 0], [1, 1, 1], BadRow(-1)),
            ([1, 1, 0], [1, 1, 0], BadRow(2)), ([1, 1, 0], [1, 1], OtherSize(2)),
        ]
        for wrong, other, fault in cases:
            row, tolls = [1, 1, 0], [1, 1, 1]
            found = answers_from(votes(2, 3), row, tolls)
            row[:], tolls[:] = wrong, other
            self.assert_error(fault, next, found)

    def test_the_lists_stay_as_they_were(self):
        row, tolls = [1, 1, 0, 0, 0], [10, 10, 1, 2, 1]
        list(answers_from(ring(5), row, tolls))
        last_answer(ring(5), row, tolls)
        self.assertEqual([row, tolls], [[1, 1, 0, 0, 0], [10, 10, 1, 2, 1]])


class ErrorsTest(Case):
    """The errors, which come when the iteration begins."""

    def test_nothing_before_the_iteration(self):
        for call in (next, list, lambda found: next(iter(found))):
            self.assert_error(BadRow(-1), call, answers_from(ring(3), None, None))
            self.assert_error(OtherSize(2), call, answers_from(ring(3), [1, 1], [0]))
            self.assert_error(TooMany(7), call, answers_from(ring(8), Row.of_set([0, 1], 8), [1] * 8))
        # behind its error the generator is at its end
        found = answers_from(ring(3), None, None)
        self.assert_error(BadRow(-1), next, found)
        self.assertEqual(list(found), [])

    def test_errors(self):
        family = ring(3)
        for call in (lambda *some: next(answers_from(*some)), last_answer):
            self.assert_row_errors(3, lambda row, call=call: call(family, row, None))
            self.assert_positive_row_errors(3, lambda tolls, call=call: call(family, [5, 5, 5], tolls))
            for row in ([5, 5, 5], [0, 0, 0], [1, 1, 1], Row([2, 2, 2], 3), [1, 0, 0]):
                self.assert_error(BadRow(-1), call, family, row, [1, 1, 1])
            # a corner of the family is none of the blocker
            other = Family(3, [(0, 1), (0, 2)])
            self.assert_error(BadRow(-1), call, other, [1, 0, 0], [1, 1, 1])
            eight = ring(8)
            half = Row.of_set([0, 2, 4, 6], 8)
            self.assert_error(BadRow(-1), call, eight, half, [1] * 8)
            self.assert_error(TooMany(7), call, eight, Row.of_set([0, 1], 8), [1] * 8)
            self.assert_error(OtherSize(7), call, eight, Row.of_set([0, 1], 8), [1] * 7)

    def test_useless_things(self):
        places = [2, 8, 19, 25, 40, 41, 59]
        family = useless_beside(votes(4, 7), places, 60)
        tolls = Row([10 ** 39 + 7 * e * e for e in range(60)], 10 ** 40)
        small = Row.of_amounts([tolls[e] for e in places])
        for y in corners_of(~family)[::9]:
            found = list(answers_from(family, y, tolls))
            low = Row.of_amounts([y[e] for e in places])
            expected = list(answers_from(votes(4, 7), low, small))
            self.assertEqual([entry[2] for entry in found], [entry[2] for entry in expected])
            self.assertEqual([[x[e] for e in places] for x, _, _ in found], [list(x) for x, _, _ in expected])


if __name__ == "__main__":
    unittest.main()
