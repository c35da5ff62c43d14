"""The price of a least break in closed form, also with families put in."""

from shortbynarrow.amounts import least
from shortbynarrow.pricing import sum_of_pair
from shortbynarrow.putprices import put_prices_row
from shortbynarrow.rows import row_of


def _price_at(found, row):
    """Return the lesser one of the least useful entry and the sum of the two broken corners."""
    entries = [row[thing] for thing in found.family.useful]
    return least([*entries, sum_of_pair(found.x, found.y, row)])


def break_price(found, tolls):
    """Return the price of the family of a least break."""
    return _price_at(found, row_of(tolls, found.family.things))


def put_break_price(found, families, tolls):
    """Return the price of the family of a least break with these families put in."""
    return _price_at(found, put_prices_row(found.family, families, tolls))
