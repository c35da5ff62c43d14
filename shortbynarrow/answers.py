"""Answers in turn: each side takes its cheapest corner against the other one."""

from shortbynarrow.amounts import at_most
from shortbynarrow.checks import copied
from shortbynarrow.corners import cheapest_of, corners_of
from shortbynarrow.covers import is_corner
from shortbynarrow.errors import BadRow
from shortbynarrow.pricing import sum_of_pair
from shortbynarrow.rows import row_of
from shortbynarrow.settling import positive_row


class Answers:
    """What `answers_from` yields: pairs that are worked out when the iteration begins.

    A generator would read the lists that were handed in only then, and a caller may have changed them.
    """

    def __init__(self, family, row, tolls):
        self.family = family
        self.first = copied(row)
        self.tolls = copied(tolls)

    @property
    def answers(self):
        """The list of the pairs (x, y, sum) in their order."""
        return _answers_in_turn(self.family, self.first, self.tolls)

    def __iter__(self):
        yield from self.answers


def _answers_in_turn(family, row, tolls):
    y = row_of(row, family.things)
    checked = positive_row(tolls, family.things)
    other = ~family
    if not is_corner(other, y):
        raise BadRow(-1)
    ours, theirs = corners_of(family), corners_of(other)
    x = cheapest_of(ours, checked * y)
    total = None
    new = sum_of_pair(x, y, checked)
    found = []
    blocker_answers = True
    while not at_most(total, new):
        total = new
        found.append((x, y, total))
        if blocker_answers:
            y = cheapest_of(theirs, checked * x)
        else:
            x = cheapest_of(ours, checked * y)
        new = sum_of_pair(x, y, checked)
        blocker_answers = not blocker_answers
    return found


def answers_from(family, row, tolls):
    """Yield the pairs (x, y, sum) that come up from a first corner of the blocker, until none is less."""
    return Answers(family, row, tolls)


def last_answer(family, row, tolls):
    """Return the last one of these pairs, which is settled."""
    return _answers_in_turn(family, row, tolls)[-1]
