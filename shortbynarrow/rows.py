"""Rows: one amount a thing, kept as integers over one bottom."""

from math import gcd, lcm

from shortbynarrow.amounts import amount, is_amount, lowest
from shortbynarrow.checks import check_size, check_thing, is_list, is_whole_number
from shortbynarrow.errors import BadNumber, BadRow, OtherSize
from shortbynarrow.lots import checked_set, set_of


def _check_tops(tops):
    if not is_list(tops) or len(tops) == 0:
        raise BadRow(-1)
    for place, top in enumerate(tops):
        if not is_whole_number(top) or top < 0:
            raise BadRow(place)


def _common_divisor(tops, bottom):
    common = bottom
    for top in tops:
        if common == 1:
            return 1
        common = gcd(common, top)
    return common


class Row:
    """One amount a thing, in least terms."""

    def __init__(self, tops, bottom=1):
        _check_tops(tops)
        if not is_whole_number(bottom) or bottom < 1:
            raise BadNumber("bottom")
        common = _common_divisor(tops, bottom)
        self.tops = tuple([top // common for top in tops])
        self.bottom = bottom // common
        self._entries = tuple([lowest(top, self.bottom) for top in self.tops])

    @property
    def is_whole(self):
        """Whether all entries are integers."""
        return self.bottom == 1

    @classmethod
    def ones(cls, size):
        """Return the row of 1s."""
        check_size(size)
        return cls([1] * size)

    @classmethod
    def of_set(cls, things, size):
        """Return the row that is 1 on the set and 0 elsewhere."""
        inside = set_of(things, size)
        return cls([1 if thing in inside else 0 for thing in range(size)])

    @classmethod
    def of_amounts(cls, amounts):
        """Return the row with these amounts."""
        if not is_list(amounts) or len(amounts) == 0:
            raise BadRow(-1)
        bottom = 1
        for place, value in enumerate(amounts):
            if not is_amount(value):
                raise BadRow(place)
            bottom = lcm(bottom, amount(value)[1])
        entries = [amount(value) for value in amounts]
        return cls([entry[0] * (bottom // entry[1]) for entry in entries], bottom)

    def __add__(self, other):
        if len(other) != len(self):
            raise OtherSize(len(other))
        tops = [one * other.bottom + two * self.bottom for one, two in zip(self.tops, other.tops)]
        return Row(tops, self.bottom * other.bottom)

    def __mul__(self, other):
        if not isinstance(other, Row):
            return Row([other * top for top in self.tops], self.bottom)
        if len(other) != len(self):
            raise OtherSize(len(other))
        tops = [one * two for one, two in zip(self.tops, other.tops)]
        return Row(tops, self.bottom * other.bottom)

    def __rmul__(self, other):
        return Row([other * top for top in self.tops], self.bottom)

    def __eq__(self, other):
        return isinstance(other, Row) and self.tops == other.tops and self.bottom == other.bottom

    def __len__(self):
        return len(self.tops)

    def __getitem__(self, at):
        if not is_whole_number(at) or not 0 <= at < len(self.tops):
            raise IndexError("no such entry")
        return self._entries[at]

    def __iter__(self):
        return iter(self._entries)

    def at(self, things):
        """Return the sum of the entries on a set."""
        inside = checked_set(things, len(self.tops))
        return lowest(sum([self.tops[thing] for thing in inside]), self.bottom)

    def total(self):
        """Return the sum of all entries."""
        return lowest(sum(self.tops), self.bottom)

    def dot(self, other):
        """Return the sum of the products of the entries of two rows."""
        row = row_of(other, len(self.tops))
        top = sum([one * two for one, two in zip(self.tops, row.tops)])
        return lowest(top, self.bottom * row.bottom)

    def scaled(self, value):
        """Return the row times an amount."""
        factor = amount(value)
        return Row([factor[0] * top for top in self.tops], self.bottom * factor[1])

    def with_entry(self, thing, value):
        """Return the row with another amount at a thing."""
        check_thing(thing, len(self.tops))
        entry = amount(value)
        tops = [top * entry[1] for top in self.tops]
        tops[thing] = entry[0] * self.bottom
        return Row(tops, self.bottom * entry[1])

    def covers_row(self, other):
        """Tell whether no entry is less than that of the other row."""
        row = row_of(other, len(self.tops))
        pairs = list(zip(self.tops, row.tops))
        return all([one * row.bottom >= two * self.bottom for one, two in pairs])

    def support(self):
        """Return the set of the places with an amount above zero."""
        return tuple([thing for thing, top in enumerate(self.tops) if top > 0])


def row_of(value, size):
    """Return the row that the value stands for, which must have this size."""
    row = value if isinstance(value, Row) else Row(value)
    if len(row) != size:
        raise OtherSize(len(row))
    return row


def whole_row(value, size):
    """Return the row that the value stands for, which must be whole and have this size."""
    row = value if isinstance(value, Row) else Row(value)
    for place, entry in enumerate(row):
        if entry[1] != 1:
            raise BadRow(place)
    return row_of(row, size)


def over_one_bottom(rows):
    """Return the entries of some rows as lists of integers over one bottom, and this bottom."""
    bottom = 1
    for row in rows:
        bottom = lcm(bottom, row.bottom)
    return [_tops_over(row, bottom) for row in rows], bottom


def _tops_over(row, bottom):
    return [top * (bottom // row.bottom) for top in row.tops]
