"""Amounts: fractions from zero on, as tuples (top, bottom) in least terms; None is without end."""

from math import gcd

from shortbynarrow.checks import is_list, is_whole_number
from shortbynarrow.errors import BadAmount, BadNumber

ZERO = (0, 1)
ONE = (1, 1)


def is_amount(value):
    """Tell whether the value may be handed in as an amount."""
    if is_whole_number(value):
        return value >= 0
    if not is_list(value) or len(value) != 2:
        return False
    if not is_whole_number(value[0]) or not is_whole_number(value[1]):
        return False
    return value[0] >= 0 and value[1] >= 1


def lowest(top, bottom):
    """Return the fraction top/bottom of two integers in least terms."""
    common = gcd(top, bottom)
    return top // common, bottom // common


def amount(value):
    """Return the amount that the value stands for."""
    if not is_amount(value):
        raise BadAmount("amount")
    if is_whole_number(value):
        return value, 1
    return lowest(value[0], value[1])


def _amount_or_none(value):
    return None if value is None else amount(value)


def plus(one, other):
    """Return the sum of two amounts; None with anything is None."""
    first, second = _amount_or_none(one), _amount_or_none(other)
    if first is None or second is None:
        return None
    return lowest(first[0] * second[1] + second[0] * first[1], first[1] * second[1])


def times(one, other):
    """Return the product of two amounts; None with anything but zero is None."""
    first, second = _amount_or_none(one), _amount_or_none(other)
    if first == ZERO or second == ZERO:
        return ZERO
    if first is None or second is None:
        return None
    return lowest(first[0] * second[0], first[1] * second[1])


def over(one, other):
    """Return one divided by other, None if other is zero."""
    first, second = amount(one), amount(other)
    if second == ZERO:
        return None
    return lowest(first[0] * second[1], first[1] * second[0])


def apart(one, other):
    """Return the greater amount less the lesser one."""
    first, second = amount(one), amount(other)
    return lowest(abs(first[0] * second[1] - second[0] * first[1]), first[1] * second[1])


def _not_above(first, second):
    if second is None:
        return True
    if first is None:
        return False
    return first[0] * second[1] <= second[0] * first[1]


def at_most(one, other):
    """Tell whether one is not more than other; None is more than each amount."""
    return _not_above(_amount_or_none(one), _amount_or_none(other))


def _read_amounts(amounts):
    if not is_list(amounts) or len(amounts) == 0:
        raise BadNumber("amounts")
    return [_amount_or_none(value) for value in amounts]


def least(amounts):
    """Return the least one of a list of amounts, in which None may stand."""
    found = _read_amounts(amounts)
    best = found[0]
    for value in found:
        if _not_above(value, best):
            best = value
    return best


def greatest(amounts):
    """Return the greatest one of a list of amounts, in which None may stand."""
    found = _read_amounts(amounts)
    best = found[0]
    for value in found:
        if _not_above(best, value):
            best = value
    return best
