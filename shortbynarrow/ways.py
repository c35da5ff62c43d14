"""Ways and cuts of nets, the family of a net, distances and levels."""

from shortbynarrow.amounts import amount, at_most, is_amount, lowest
from shortbynarrow.errors import BadAmount, NoWay
from shortbynarrow.families import Family
from shortbynarrow.rows import row_of


def ways_of(net):
    """Return the list of all ways from the first point to the last one, ascending."""
    found = _ways_from(net, 0, 1)
    if not found:
        raise NoWay()
    return found


def _ways_from(net, point, met):
    """Return the ways from a point to the last one over points that are not in the mask, ascending."""
    if point == net.points - 1:
        return [()]
    found = []
    for number, (v, w, _) in enumerate(net.links):
        if point == v or point == w:
            bit = 1 << (v + w - point)
            if not met & bit:
                found.extend([(number,) + rest for rest in _ways_from(net, v + w - point, met | bit)])
    return found


def _links_between(net, mask):
    """Return the links between the points of the mask and the others, ascending."""
    links = list(enumerate(net.links))
    return tuple([number for number, (v, w, _) in links if (mask >> v & 1) != (mask >> w & 1)])


def cuts_of(net):
    """Return the list of all cuts, ascending, each once."""
    # the odd masks without the last point
    masks = list(range(1, 1 << (net.points - 1), 2))
    return sorted(list({_links_between(net, mask): True for mask in masks}))


def net_family(net):
    """Return the family of the sets of names of the ways."""
    different = {}
    for way in ways_of(net):
        different[tuple(sorted(list({net.links[number][2]: True for number in way})))] = True
    return Family(net.size, list(different))


def distances(net, lengths):
    """Return the distance of each point, None for a point that no links lead to."""
    row = row_of(lengths, net.size)
    return tuple([None if top is None else lowest(top, row.bottom) for top in _far_tops(net, row)])


def _far_tops(net, row):
    """Return the distances over the bottom of the row, or None."""
    far = [None] * net.points
    far[0] = 0
    # a shortest sequence of links has fewer links than there are points
    for _ in range(net.points - 1):
        for v, w, name in net.links:
            for start, end in ((v, w), (w, v)):
                if far[start] is not None:
                    there = far[start] + row.tops[name]
                    if far[end] is None or there < far[end]:
                        far[end] = there
    return far


def cut_at(net, lengths, level):
    """Return the links between the points of at most this distance and the others, ascending."""
    far = distances(net, lengths)
    if not is_amount(level):
        raise BadAmount("level")
    if far[-1] is None:
        raise NoWay()
    if at_most(far[-1], amount(level)):
        raise BadAmount("level")
    mask = 0
    for point, distance in enumerate(far):
        if at_most(distance, level):
            mask = mask | (1 << point)
    return _links_between(net, mask)
