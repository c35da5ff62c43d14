"""Block families: each thing becomes a block of as many things as its length times its width."""

from shortbynarrow.errors import TooMany
from shortbynarrow.faces import worst_lengths, worst_widths
from shortbynarrow.families import Family
from shortbynarrow.lengths import narrow, short
from shortbynarrow.parts import part
from shortbynarrow.rows import whole_row
from shortbynarrow.shapes import block

MOST_BLOCK_THINGS = 12
MOST_BLOCK_LOTS = 200


def _part_and_rows(family, lengths, widths):
    """Return the part without the things of length or width 0, and the two rows."""
    lengths_row = whole_row(lengths, family.things)
    widths_row = whole_row(widths, family.things)
    sides = list(enumerate(zip(lengths_row.tops, widths_row.tops)))
    kept = [thing for thing, (length, _) in sides if length == 0]
    left = [thing for thing, (length, width) in sides if length > 0 and width == 0]
    return part(family, left, kept), lengths_row, widths_row


def _lots_of_block(length, width):
    """Return how many lots a block has; it has one lot choice of its width for each of its rows."""
    many = 1
    for _ in range(length):
        many = many * width
    return many


def _many_lots(small, sizes):
    """Return how many lots there are when blocks of these sizes are put in."""
    total = 0
    for lot in small.lots:
        many = 1
        for thing in lot:
            many = many * _lots_of_block(sizes[thing][0], sizes[thing][1])
        total = total + many
    return total


def block_family(family, lengths, widths):
    """Return the family with a block put in for each thing."""
    small, lengths_row, widths_row = _part_and_rows(family, lengths, widths)
    sizes = list(zip(lengths_row.tops, widths_row.tops))
    things = [length * width if length > 0 and width > 0 else 1 for length, width in sizes]
    if sum(things) > MOST_BLOCK_THINGS:
        raise TooMany(MOST_BLOCK_THINGS)
    if _many_lots(small, sizes) > MOST_BLOCK_LOTS:
        raise TooMany(MOST_BLOCK_LOTS)
    blocks = [
        block(length, width) if length > 0 and width > 0 else Family.single()
        for length, width in sizes
    ]
    return small(blocks)


def block_sizes(family, lengths, widths):
    """Return the least sizes of the block family and of its blocker, and the number of block things."""
    small, lengths_row, widths_row = _part_and_rows(family, lengths, widths)
    # lengths and widths that are whole give whole answers
    smallest, narrowest = short(small, lengths_row)[0], narrow(small, widths_row)[0]
    return smallest, narrowest, lengths_row.dot(widths_row)[0]


def worst_blocks(family):
    """Return the worst lengths and the worst widths."""
    return worst_lengths(family), worst_widths(family)
