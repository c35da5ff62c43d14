"""A test case that compares errors by class and attributes."""

import unittest


class Case(unittest.TestCase):
    """The base class of the tests."""

    def assert_error(self, expected, call, *args, **kwargs):
        """Check that the call raises an error of just this class with these attributes."""
        with self.assertRaises(type(expected)) as caught:
            call(*args, **kwargs)
        self.assertIs(type(caught.exception), type(expected))
        self.assertEqual(vars(caught.exception), vars(expected), (call, args, kwargs))
        return caught.exception

    def assert_same(self, one, other):
        """Check that two values are equal and of one kind, entry by entry."""
        self.assertEqual(one, other)
        self.assertEqual(repr(one), repr(other))
