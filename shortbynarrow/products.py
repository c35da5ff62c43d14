"""When a factor keeps the shortest length times the narrowest width below the sum."""

from shortbynarrow.amounts import ONE, ZERO, amount, apart, at_most, is_amount, plus, times
from shortbynarrow.checks import check_thing
from shortbynarrow.errors import BadAmount
from shortbynarrow.lengths import narrow, short
from shortbynarrow.rows import Row, row_of


def _factor_of(value):
    if not is_amount(value):
        raise BadAmount("factor")
    return amount(value)


def tolls_of(tolls, size):
    """Return the row of tolls; None stands for 1s."""
    return Row.ones(size) if tolls is None else row_of(tolls, size)


def fourfold(family, thing, lengths, widths):
    """Return (a1, a0, b1, b0): short and narrow of the two parts by a thing."""
    check_thing(thing, family.things)
    lengths_row = row_of(lengths, family.things)
    return _four_numbers(family, thing, lengths_row, row_of(widths, family.things))


def _four_numbers(family, thing, lengths, widths):
    a1, a0, b1, b0 = None, ZERO, None, ZERO
    if not all([thing in lot for lot in family.lots]):
        left = family - thing
        a1, b0 = short(left, lengths), narrow(left, widths)
    if (thing,) not in family.lots:
        held = family // thing
        a0, b1 = short(held, lengths), narrow(held, widths)
    return a1, a0, b1, b0


def keeps(family, factor, lengths, widths, *, tolls=None):
    """Tell whether short times narrow is at most the factor times the sum."""
    most = _factor_of(factor)
    lengths_row = row_of(lengths, family.things)
    widths_row = row_of(widths, family.things)
    tolls_row = tolls_of(tolls, family.things)
    product = times(short(family, lengths_row), narrow(family, widths_row))
    return at_most(product, times(most, (tolls_row * lengths_row).dot(widths_row)))


class AtThing:
    """What the questions about all entries at one thing need, read in the order of the arguments."""

    def __init__(self, family, thing, factor, lengths, widths, tolls):
        check_thing(thing, family.things)
        most = _factor_of(factor)
        lengths_row = row_of(lengths, family.things)
        widths_row = row_of(widths, family.things)
        tolls_row = tolls_of(tolls, family.things)
        numbers = _four_numbers(family, thing, lengths_row, widths_row)
        self.a1, self.a0, self.b1, self.b0 = numbers
        others = (tolls_row * lengths_row).with_entry(thing, 0)
        self.rest = times(most, others.dot(widths_row))
        self.price = times(most, tolls_row[thing])


def keeps_at(family, thing, factor, lengths, widths, *, tolls=None):
    """Tell whether the factor keeps for all entries of lengths and widths at the thing."""
    at = AtThing(family, thing, factor, lengths, widths, tolls)
    dear = at_most(ONE, at.price)
    if at.a1 is None and at.b1 is None:
        return dear
    if at.a1 is None:
        return at.b1 == ZERO or (dear and at_most(times(at.a0, at.b1), at.rest))
    if at.b1 is None:
        return at.a1 == ZERO or (dear and at_most(times(at.a1, at.b0), at.rest))
    if not at_most(times(at.a1, at.b0), at.rest) or not at_most(times(at.a0, at.b1), at.rest):
        return False
    corner = times(at.price, times(apart(at.a1, at.a0), apart(at.b1, at.b0)))
    return at_most(times(at.a1, at.b1), plus(at.rest, corner))


def worst_entries(family, thing, factor, lengths, widths, *, tolls=None):
    """Return the entries at the thing at which the factor keeps least."""
    at = AtThing(family, thing, factor, lengths, widths, tolls)
    lengths_there = [(ZERO, at.a0)]
    widths_there = [(ZERO, at.b0)]
    if at.a1 is not None:
        lengths_there.append((apart(at.a1, at.a0), at.a1))
    if at.b1 is not None:
        widths_there.append((apart(at.b1, at.b0), at.b1))
    best = None
    gain, loss = ZERO, ZERO
    for width, narrowest_then in widths_there:
        for length, shortest_then in lengths_there:
            product = times(shortest_then, narrowest_then)
            charge = times(at.price, times(length, width))
            # product - charge is to be above gain - loss; amounts have no sign
            if best is None or not at_most(plus(product, loss), plus(gain, charge)):
                best, gain, loss = (length, width), product, charge
    return best
