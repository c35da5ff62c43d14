"""Points 40, 41 and 44: corners of parts by one thing."""

import unittest

from shortbynarrow.cornerparts import corners_held, dropped, lifted
from shortbynarrow.corners import broken_corners, corners_of
from shortbynarrow.covers import raised
from shortbynarrow.errors import BadRow, BadThing, Lost, OtherSize, TooMany
from shortbynarrow.families import Family
from shortbynarrow.rows import Row
from shortbynarrow.shapes import ring, votes
from tests.brute import all_families, some_families, tuples, useless_beside
from tests.cases import Case


def small_families():
    """Return all families of at most three things and some greater ones."""
    found = [family for things in (1, 2, 3) for family in all_families(things)]
    return found + some_families(311, 60, most_things=6)


class HeldTest(Case):
    """Point 40."""

    def test_corners_held(self):
        for family in small_families():
            for e in range(family.things):
                if (e,) in family:
                    self.assert_error(Lost(e, "held"), corners_held, family, e)
                    self.assertTrue(all(x[e] == (1, 1) for x in corners_of(family)))
                    continue
                found = corners_held(family, e)
                self.assertIs(type(found), list)
                self.assertEqual(found, corners_of(family // e))
                self.assertEqual(found, [x for x in corners_of(family) if x[e] == (0, 1)])

    def test_errors(self):
        self.assert_thing_errors(3, lambda thing: corners_held(Family(3, [(1,)]), thing))
        self.assert_error(TooMany(7), corners_held, ring(8), 0)
        self.assert_error(BadThing(8), corners_held, ring(8), 8)
        nine = Family(9, [(0,)] + list(useless_beside(ring(8), list(range(1, 9)), 9).lots))
        self.assert_error(Lost(0, "held"), corners_held, nine, 0)
        # the part has seven useful things, but the family is asked
        self.assert_error(TooMany(7), corners_held, votes(8, 8), 0)

    def test_useless_things(self):
        places = [1, 14, 22, 30, 47, 58, 59]
        family = useless_beside(ring(7), places, 60)
        self.assertEqual(corners_held(family, 0), corners_of(family))
        found = corners_held(family, 22)
        small = corners_held(ring(7), 2)
        self.assertEqual([[x[e] for e in places] for x in found], [list(x) for x in small])


class LeftTest(Case):
    """Point 41."""

    def test_lifted_and_dropped(self):
        for family in small_families():
            for e in range(family.things):
                corners = corners_of(family)
                if all(e in lot for lot in family.lots):
                    self.check_lost(family, e, corners)
                else:
                    self.check_not_lost(family, e, corners)

    def check_lost(self, family, e, corners):
        """Check a thing without which there is no lot."""
        ones = [x for x in corners if x[e] == (1, 1)]
        self.assertEqual(ones, [Row.of_set([e], family.things)])
        for row in corners + [Row.ones(family.things)]:
            self.assert_error(Lost(e, "left"), lifted, family, row, e)
            self.assert_error(Lost(e, "left"), dropped, family, row, e)

    def check_not_lost(self, family, e, corners):
        """Check that corners of the part are lifted, and corners with 1 dropped, there and back."""
        below = corners_of(family - e)
        made = []
        for x in below:
            up = lifted(family, x, e)
            self.assertIs(type(up), Row)
            self.assertEqual(up, x.with_entry(e, raised(family, x, e)))
            self.assertIn(up, corners)
            same = [z for z in corners if z.with_entry(e, 0) == x]
            self.assertEqual(same, [up])
            made.append(tuples(up))
            if up[e] == (1, 1):
                self.assertEqual(dropped(family, up, e), x)
            else:
                self.assert_error(BadRow(e), dropped, family, up, e)
        self.assertEqual(len(set(made)), len(below))
        for z in corners:
            if z[e] == (1, 1):
                down = dropped(family, z, e)
                self.assertIs(type(down), Row)
                self.assertEqual(down, z.with_entry(e, 0))
                self.assertIn(down, below)
                self.assertEqual(lifted(family, down, e), z)
                # the corner itself has not 0 at the thing
                self.assert_error(BadRow(-1), lifted, family, z, e)
            else:
                self.assert_error(BadRow(e), dropped, family, z, e)

    def test_example(self):
        family = Family(4, [(0, 1), (0, 2), (0, 3), (1, 2)])
        self.assertEqual(list(lifted(family, Row((1, 1, 1, 0), 2), 3)), [(1, 2), (1, 2), (1, 2), (1, 2)])

    def test_no_corners(self):
        family = Family(4, [(0, 1), (0, 2), (0, 3), (1, 2)])
        for row in ([1, 1, 1, 0], [0, 0, 0, 0], Row([2, 2, 2, 0], 3), Row([1, 1, 1, 1], 2)):
            self.assert_error(BadRow(-1), lifted, family, row, 3)
        for row in ([1, 1, 1, 1], [0, 0, 0, 1], Row([3, 3, 3, 3], 4), [0, 1, 1, 2]):
            self.assert_error(BadRow(-1), dropped, family, row, 3)
        self.assert_error(BadRow(3), dropped, family, Row([1, 1, 1, 1], 2), 3)
        self.assert_error(BadRow(2), dropped, family, [1, 1, 0, 0], 2)
        self.assertEqual(dropped(family, [1, 1, 0, 0], 1), Row([1, 0, 0, 0]))

    def test_useless_thing(self):
        family = Family(3, [(0, 2)])
        self.assertEqual(lifted(family, [1, 0, 0], 1), Row([1, 0, 0]))
        self.assert_error(BadRow(1), dropped, family, [1, 0, 0], 1)

    def test_errors(self):
        family = Family(3, [(0, 1), (0, 2)])
        for call in (lifted, dropped):
            self.assert_row_errors(3, lambda row, call=call: call(family, row, 9))
            self.assert_thing_errors(3, lambda thing, call=call: call(family, [5, 5, 5], thing))
            self.assert_error(Lost(0, "left"), call, family, [5, 5, 5], 0)
            self.assert_error(OtherSize(2), call, family, [0, 0], 0)

    def test_any_size(self):
        family = ring(59)
        half = Row([1] * 59, 2)
        self.assert_error(BadRow(7), dropped, family, half, 7)
        row = Row.of_set(list(range(0, 59, 2)), 59)
        down = dropped(family, row, 0)
        self.assertEqual(lifted(family, down, 0), row)
        with self.assertRaises(TooMany):
            broken_corners(family)


if __name__ == "__main__":
    unittest.main()
