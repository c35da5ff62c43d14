"""Answers in turn: each side takes its cheapest corner against the other one."""

from shortbynarrow.amounts import at_most
from shortbynarrow.corners import cheapest_of, corners_of
from shortbynarrow.covers import is_corner
from shortbynarrow.errors import BadRow
from shortbynarrow.pricing import sum_of_pair
from shortbynarrow.rows import row_of
from shortbynarrow.settling import positive_row


def answers_from(family, row, tolls):
    """Yield the pairs (x, y, sum) that come up from a first corner of the blocker, until none is less."""
    y = row_of(row, family.things)
    checked = positive_row(tolls, family.things)
    other = ~family
    if not is_corner(other, y):
        raise BadRow(-1)
    ours, theirs = corners_of(family), corners_of(other)
    x = cheapest_of(ours, checked * y)
    total = None
    new = sum_of_pair(x, y, checked)
    blocker_answers = True
    while not at_most(total, new):
        total = new
        yield x, y, total
        if blocker_answers:
            y = cheapest_of(theirs, checked * x)
        else:
            x = cheapest_of(ours, checked * y)
        new = sum_of_pair(x, y, checked)
        blocker_answers = not blocker_answers


def last_answer(family, row, tolls):
    """Return the last one of these pairs, which is settled."""
    found = list(answers_from(family, row, tolls))
    return found[-1]
