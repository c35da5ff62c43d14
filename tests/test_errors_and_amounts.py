"""Points 2 and 3: the error classes, and amounts."""

import inspect
import random
import unittest
from fractions import Fraction

from shortbynarrow import errors
from shortbynarrow.amounts import amount, apart, at_most, greatest, least, over, plus, times
from shortbynarrow.errors import BadAmount, BadNumber, BadText, Lost, Trouble
from tests.brute import amount_of, fraction
from tests.cases import Case

SIGNATURES = {
    "BadNumber": ["word"], "BadAmount": ["word"], "BadSet": ["place"], "BadRow": ["place"],
    "BadLots": ["place"], "EmptyLot": ["place"], "NoLots": [], "BadFamily": ["place"],
    "BadThing": ["thing"], "BadNames": ["place"], "BadMix": ["place"], "BadPlay": ["word"],
    "BadTree": ["word"], "BadNet": ["place"], "BadStretch": ["place"], "BadDeed": ["word"],
    "OtherSize": ["size"], "Lost": ["thing", "word"], "Clash": ["thing"], "NotCover": ["lot"],
    "NotCouples": ["lot"], "NotOnce": ["name"], "NoWay": [], "NothingBack": [],
    "TooMany": ["limit"], "BadText": ["line", "word"],
}
LONG = 10 ** 39 + 7
WRONG_AMOUNTS = [
    -1, True, False, "1", 1.0, Fraction(1), (), (1,), [1, 2, 3], (1, 0), (0, 0), (-1, 2), (1, -2),
    (True, 1), (1, True), (1.0, 2), ("1", 2), {0: 1, 1: 1}, "12", (None, 1), [[1, 2], 3], b"12",
]


class ErrorsTest(Case):
    """Point 2."""

    def test_classes(self):
        own = {name: one for name, one in vars(errors).items() if inspect.isclass(one)}
        self.assertEqual(sorted(own), sorted([*SIGNATURES, "Trouble"]))
        self.assertEqual(Trouble.__bases__, (Exception,))
        for name, words in SIGNATURES.items():
            self.assertEqual(own[name].__bases__, (Trouble,), name)
            self.assertEqual(own[name].__module__, "shortbynarrow.errors")
            values = [f"value of {word}" for word in words]
            made = own[name](*values)
            self.assertEqual(vars(made), dict(zip(words, values)), name)
            named = own[name](**dict(zip(words, values)))
            self.assertEqual(vars(named), dict(zip(words, values)), name)

    def test_shown(self):
        self.assertEqual(repr(BadText(3, "lot")), "BadText(3, 'lot')")
        self.assertEqual(repr(Lost(2, "held")), "Lost(2, 'held')")
        self.assertEqual(repr(Trouble()), "Trouble()")


class AmountsTest(Case):
    """Point 3."""

    def test_amount(self):
        self.assert_same(amount(0), (0, 1))
        self.assert_same(amount(7), (7, 1))
        self.assert_same(amount([6, 4]), (3, 2))
        self.assert_same(amount((0, 9)), (0, 1))
        self.assert_same(amount((6 * LONG, 4 * LONG)), (3, 2))
        self.assert_same(amount(LONG), (LONG, 1))
        value = [6, 4]
        amount(value)
        self.assertEqual(value, [6, 4])

    def test_wrong_amounts(self):
        for wrong in WRONG_AMOUNTS:
            self.assert_error(BadAmount("amount"), amount, wrong)
            for call in (plus, times, over, apart, at_most):
                self.assert_error(BadAmount("amount"), call, wrong, 1)
                self.assert_error(BadAmount("amount"), call, 1, wrong)
                self.assert_error(BadAmount("amount"), call, wrong, 0)
                self.assert_error(BadAmount("amount"), call, 0, wrong)
            for call in (plus, times, at_most):
                self.assert_error(BadAmount("amount"), call, None, wrong)
                self.assert_error(BadAmount("amount"), call, wrong, None)
            for call in (least, greatest):
                self.assert_error(BadAmount("amount"), call, [1, wrong])
                self.assert_error(BadAmount("amount"), call, (wrong, None))

    def test_none(self):
        self.assert_error(BadAmount("amount"), amount, None)
        for call in (over, apart):
            self.assert_error(BadAmount("amount"), call, None, 1)
            self.assert_error(BadAmount("amount"), call, 0, None)
        self.assertIsNone(plus(None, 1))
        self.assertIsNone(plus((1, 2), None))
        self.assertIsNone(plus(None, 0))
        self.assertIsNone(plus(None, None))
        self.assertIsNone(times(None, (1, 2)))
        self.assertIsNone(times(3, None))
        self.assertIsNone(times(None, None))
        self.assert_same(times(None, 0), (0, 1))
        self.assert_same(times((0, 5), None), (0, 1))
        self.assertIs(at_most(1, None), True)
        self.assertIs(at_most(None, None), True)
        self.assertIs(at_most(None, 10 ** 50), False)

    def test_against_fractions(self):
        rng = random.Random(3)
        for _ in range(300):
            most = rng.choice([4, 10 ** 40])
            one = (rng.randint(0, most), rng.randint(1, most))
            two = (rng.randint(0, most), rng.randint(1, most))
            x, y = fraction(one), fraction(two)
            self.assert_same(plus(one, list(two)), amount_of(x + y))
            self.assert_same(times(list(one), two), amount_of(x * y))
            self.assert_same(apart(one, two), amount_of(abs(x - y)))
            self.assertIs(at_most(one, two), x <= y)
            self.assert_same(over(one, two), amount_of(x / y) if y else None)
            self.assert_same(least([one, two]), amount_of(min(x, y)))
            self.assert_same(greatest((one, two)), amount_of(max(x, y)))
            self.assert_same(least([None, one, None]), amount_of(x))
            self.assertIsNone(greatest([one, None, two]))
        self.assertIsNone(over(0, 0))
        self.assertIsNone(over(5, (0, 3)))
        self.assert_same(plus(1, 2), (3, 1))

    def test_least_and_greatest(self):
        for wrong in [None, [], (), 5, "12", {0: 1}, {1}, 1.5, True]:
            self.assert_error(BadNumber("amounts"), least, wrong)
            self.assert_error(BadNumber("amounts"), greatest, wrong)
        self.assertIsNone(least([None]))
        self.assertIsNone(least([None, None]))
        self.assert_same(least([(4, 2), 3, [5, 2]]), (2, 1))
        self.assert_same(greatest([(4, 2), 3, [5, 2]]), (3, 1))
        self.assert_same(least([0]), (0, 1))


if __name__ == "__main__":
    unittest.main()
