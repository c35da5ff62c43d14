"""Prices of put-in families, from the prices of the inner ones at their shares of the tolls."""

from shortbynarrow.checks import is_between
from shortbynarrow.cornerput import shares_in
from shortbynarrow.errors import BadThing
from shortbynarrow.families import check_families, check_put_in, starts_of
from shortbynarrow.pricing import price
from shortbynarrow.rows import Row, row_of


def put_prices_row(family, families, tolls):
    """Return the row that has at each thing the price of the family that is put in for it."""
    check_put_in(family.things, families)
    row = row_of(tolls, starts_of(families)[-1])
    parts = list(zip(families, shares_in(families, row)))
    return Row.of_amounts([price(inner, share) for inner, share in parts])


def put_price(family, families, tolls):
    """Return the price of the put-in family."""
    return price(family, put_prices_row(family, families, tolls))


def share_of(families, row, e):
    """Return the share of one of the families in a row on the things of all of them."""
    check_families(families)
    checked = row_of(row, starts_of(families)[-1])
    if not is_between(e, 0, len(families) - 1):
        raise BadThing(e)
    return shares_in(families, checked)[e]
