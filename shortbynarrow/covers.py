"""Covers: rows that have at least 1 on each lot."""

from shortbynarrow.amounts import lowest
from shortbynarrow.checks import check_thing
from shortbynarrow.errors import NotCover
from shortbynarrow.lengths import sum_on
from shortbynarrow.rows import Row, row_of


def _first_uncovered(lots, row):
    for lot in lots:
        if sum_on(row.tops, lot) < row.bottom:
            return lot
    return None


def checked_cover(family, row):
    """Return the row, which must be a cover."""
    cover = row_of(row, family.things)
    lot = _first_uncovered(family.lots, cover)
    if lot is not None:
        raise NotCover(lot)
    return cover


def _tight(lots, cover):
    return tuple([lot for lot in lots if sum_on(cover.tops, lot) == cover.bottom])


def is_cover(family, row):
    """Tell whether the row is a cover."""
    return _first_uncovered(family.lots, row_of(row, family.things)) is None


def tight_lots(family, row):
    """Return the lots on which the cover is 1."""
    return _tight(family.lots, checked_cover(family, row))


def _least_top(family, tops, bottom, thing):
    """Return the least entry at the thing with which tops over the bottom are a cover, over the bottom."""
    missing = [bottom - sum_on(tops, lot) + tops[thing] for lot in family.lots if thing in lot]
    return max([0, *missing])


def raised(family, row, thing):
    """Return the least amount at the thing with which the row is a cover."""
    cover = row_of(row, family.things)
    check_thing(thing, family.things)
    lot = _first_uncovered([lot for lot in family.lots if thing not in lot], cover)
    if lot is not None:
        raise NotCover(lot)
    return lowest(_least_top(family, cover.tops, cover.bottom, thing), cover.bottom)


def lowered(family, row):
    """Return the cover with each entry in turn lowered as far as it stays a cover."""
    cover = checked_cover(family, row)
    tops = list(cover.tops)
    for thing in range(family.things):
        tops[thing] = _least_top(family, tops, cover.bottom, thing)
    return Row(tops, cover.bottom)


def is_corner(family, row):
    """Tell whether the row is a corner of the covers."""
    cover = row_of(row, family.things)
    if _first_uncovered(family.lots, cover) is not None:
        return False
    support = cover.support()
    tight = _tight(family.lots, cover)
    return _has_one_solution([[1 if e in lot else 0 for e in support] for lot in tight], len(support))


def _has_one_solution(rows, size):
    """Tell whether equations with these integers, which have a solution, have just one."""
    bottom = 1
    for column in range(size):
        main = [row for row in rows if row[column] != 0][:1]
        if not main:
            return False
        rows = [_without_column(row, main[0], column, bottom) for row in rows]
        bottom = main[0][column]
    return True


def _without_column(row, main, column, bottom):
    """Return the row less so much of the main one that the column is 0 in it; the main one becomes 0.

    The divisions leave no rest, as all entries are determinants.
    """
    pivot, entry = main[column], row[column]
    return [(one * pivot - entry * two) // bottom for one, two in zip(row, main)]
