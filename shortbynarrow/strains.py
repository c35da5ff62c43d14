"""The strain: 1 over the price at tolls 1."""

from shortbynarrow.amounts import ONE, over
from shortbynarrow.corners import broken_corners
from shortbynarrow.partprices import price_of_part
from shortbynarrow.pricing import best_pair, price
from shortbynarrow.rows import Row


def strain(family):
    """Return the strain of the family."""
    return over(ONE, price(family, Row.ones(family.things)))


def is_calm(family):
    """Tell whether the strain is 1, which it is exactly if there is no broken corner."""
    return not broken_corners(family)


def worst_pair(family):
    """Return the first best pair at the tolls 1."""
    return best_pair(family, Row.ones(family.things))


def strain_of_part(family, left, kept):
    """Return the strain of a part, None if it is lost."""
    found = price_of_part(family, Row.ones(family.things), left, kept)
    return None if found is None else over(ONE, found)
