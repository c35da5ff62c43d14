"""The corners of put-in families, made of those of the outer family and of the inner ones."""

from shortbynarrow.amounts import times
from shortbynarrow.checks import is_list
from shortbynarrow.corners import corners_of
from shortbynarrow.errors import BadRow, OtherSize, TooMany
from shortbynarrow.families import check_put_in, starts_of
from shortbynarrow.lengths import short
from shortbynarrow.rows import Row, over_one_bottom, row_of

MOST_PUT_IN = 12


def row_at(rows, place):
    """Return the row at a place of a list that is handed in; what is none there is told by the place."""
    try:
        return rows[place] if isinstance(rows[place], Row) else Row(rows[place])
    except BadRow as fault:
        raise BadRow(place) from fault


def _checked_rows(families, rows):
    if not is_list(rows):
        raise BadRow(-1)
    if len(rows) != len(families):
        raise OtherSize(len(rows))
    return [row_of(row_at(rows, place), inner.things) for place, inner in enumerate(families)]


def put_row(family, families, row, rows):
    """Return the row that has at each inner family its row times the entry of the outer row."""
    check_put_in(family.things, families)
    outer = row_of(row, family.things)
    return _made_row(outer, _checked_rows(families, rows))


def _made_row(outer, rows):
    return Row.of_amounts([times(outer[e], entry) for e, inner in enumerate(rows) for entry in inner])


def put_corners(family, families):
    """Return the list of the corners of the put-in family, ascending."""
    check_put_in(family.things, families)
    if starts_of(families)[-1] > MOST_PUT_IN:
        raise TooMany(MOST_PUT_IN)
    corners = [corners_of(inner) for inner in families]
    made = []
    for outer in corners_of(family):
        made.extend([_made_row(outer, choice) for choice in _choices(outer, corners)])
    tops = over_one_bottom(made)[0]
    return [made[place] for _, place in sorted([(row, place) for place, row in enumerate(tops)])]


def _choices(outer, corners):
    """Return the lists of one corner each; where the outer row is 0 all corners do the same."""
    found = [[]]
    for e, inner in enumerate(corners):
        fitting = inner if outer.tops[e] > 0 else inner[:1]
        found = [choice + [corner] for choice in found for corner in fitting]
    return found


def shares_in(families, row):
    """Return the list of the shares of the families in a row on all their things."""
    starts = starts_of(families)
    return [Row(row.tops[starts[e]:starts[e + 1]], row.bottom) for e in range(len(families))]


def shares(family, families, row):
    """Return for each inner family the least length of a lot at its share of the row."""
    check_put_in(family.things, families)
    checked = row_of(row, starts_of(families)[-1])
    parts = list(zip(families, shares_in(families, checked)))
    return tuple([short(inner, share) for inner, share in parts])
