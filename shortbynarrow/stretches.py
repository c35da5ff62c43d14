"""Stretches: tolls that are known to lie between a low and a high number."""

from shortbynarrow.checks import check_thing, is_between, is_list, is_whole_number
from shortbynarrow.errors import BadNumber, BadStretch
from shortbynarrow.rows import Row, row_of


def _is_stretch(entry):
    if not is_list(entry) or len(entry) != 2 or not is_whole_number(entry[1]):
        return False
    return is_between(entry[0], 0, entry[1])


class Stretches:
    """A pair (low, high) of integers for each of some things."""

    def __init__(self, ends):
        if not is_list(ends) or len(ends) == 0:
            raise BadStretch(-1)
        for place, entry in enumerate(ends):
            if not _is_stretch(entry):
                raise BadStretch(place)
        self.ends = tuple([tuple(entry) for entry in ends])

    def __eq__(self, other):
        return isinstance(other, Stretches) and self.ends == other.ends

    def __len__(self):
        return len(self.ends)

    def lows(self):
        """Return the row of the low numbers."""
        return Row([low for low, _ in self.ends])

    def highs(self):
        """Return the row of the high numbers."""
        return Row([high for _, high in self.ends])

    def seen(self):
        """Return the things whose toll is known."""
        return tuple([thing for thing, (low, high) in enumerate(self.ends) if low == high])

    def agrees(self, row):
        """Tell whether each entry of a row lies between the low and the high number."""
        checked = row_of(row, len(self.ends))
        return checked.covers_row(self.lows()) and self.highs().covers_row(checked)

    def asked(self, thing, toll):
        """Return the stretches in which the toll of a thing is known."""
        check_thing(thing, len(self.ends))
        low, high = self.ends[thing]
        if not is_between(toll, low, high):
            raise BadNumber("toll")
        ends = list(self.ends)
        ends[thing] = (toll, toll)
        return Stretches(ends)
