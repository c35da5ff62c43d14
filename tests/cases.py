"""A test case that compares errors by class and attributes."""

import unittest

from shortbynarrow.errors import BadFamily, BadRow, BadSet, BadThing, OtherSize
from shortbynarrow.families import Family
from shortbynarrow.rows import Row
from tests.brute import NOT_LISTS


class Case(unittest.TestCase):
    """The base class of the tests."""

    def assert_error(self, expected, call, *args, **kwargs):
        """Check that the call raises an error of just this class with these attributes."""
        with self.assertRaises(type(expected)) as caught:
            call(*args, **kwargs)
        self.assertIs(type(caught.exception), type(expected))
        self.assertEqual(vars(caught.exception), vars(expected), (call, args, kwargs))
        return caught.exception

    def assert_same(self, one, other):
        """Check that two values are equal and of one kind, entry by entry."""
        self.assertEqual(one, other)
        self.assertEqual(repr(one), repr(other))

    def assert_row_errors(self, size, call, whole=False):
        """Check the errors of a row of this size (at least two), the only argument of the call."""
        for wrong in NOT_LISTS + [[], ()]:
            self.assert_error(BadRow(-1), call, wrong)
        for wrong in [-1, True, None, "1", 0.5, (1, 2)]:
            self.assert_error(BadRow(1), call, [1, wrong, -1] + [1] * size)
        self.assert_error(BadRow(0), call, [False, -1])
        for other in (size - 1, size + 1):
            self.assert_error(OtherSize(other), call, [1] * other)
            self.assert_error(OtherSize(other), call, Row([2] * other))
        if whole:
            self.assert_error(BadRow(1), call, Row([2, 1] + [3] * size, 2))
        else:
            self.assert_error(OtherSize(size + 1), call, Row([2] + [1] * size, 3))

    def assert_thing_errors(self, size, call):
        """Check the errors of a thing of a family of this size, the only argument of the call."""
        for wrong in [-1, size, size + 5, True, False, None, "0", 0.0, (0,), [0]]:
            self.assert_error(BadThing(wrong), call, wrong)

    def assert_set_errors(self, size, call):
        """Check the errors of a set of things of a family of this size, the only argument of the call."""
        for wrong in NOT_LISTS:
            self.assert_error(BadSet(-1), call, wrong)
        for wrong in [-1, size, True, None, "0", 0.0, (0,)]:
            self.assert_error(BadSet(1), call, [0, wrong, -1])
        self.assert_error(BadSet(1), call, [0, 0])

    def assert_families_errors(self, size, call):
        """Check the errors of a list of as many families as this, the only argument of the call."""
        single = Family.single()
        for wrong in NOT_LISTS + [single, Row([1])]:
            self.assert_error(BadFamily(-1), call, wrong)
        for wrong in [None, 1, [single], Family, Row([1])]:
            self.assert_error(BadFamily(1), call, [single, wrong, None] + [single] * size)
        for other in (0, size - 1, size + 1):
            self.assert_error(OtherSize(other), call, [single] * other)
            self.assert_error(OtherSize(other), call, (single,) * other)

    def assert_positive_row_errors(self, size, call, none_is_ones=False):
        """Check the errors of a row of this size whose entries are to be above 0."""
        for wrong in NOT_LISTS + [[], ()]:
            if wrong is not None or not none_is_ones:
                self.assert_error(BadRow(-1), call, wrong)
        for wrong in [-1, True, None, "1", 0.5, (1, 2)]:
            self.assert_error(BadRow(2), call, [0, 1, wrong, -1] + [1] * size)
        self.assert_error(BadRow(1), call, [1, 0, 0] + [1] * size)
        self.assert_error(BadRow(1), call, Row([2, 0] + [1] * size, 3))
        for other in (size - 1, size + 1):
            self.assert_error(OtherSize(other), call, [1] * other)
            self.assert_error(OtherSize(other), call, Row([2] + [1] * (other - 1), 3))
