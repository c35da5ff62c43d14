"""Nets put in for the names of a net."""

from shortbynarrow.checks import is_list
from shortbynarrow.errors import BadNet, OtherSize, TooMany
from shortbynarrow.nets import MOST_LINKS, MOST_NAMES, MOST_POINTS, Net


def _check_nets(nets, many):
    if not is_list(nets):
        raise BadNet(-1)
    for place, inner in enumerate(nets):
        if not isinstance(inner, Net):
            raise BadNet(place)
    if len(nets) != many:
        raise OtherSize(len(nets))


def put_nets(net, nets):
    """Return the net in which each link gives way to a copy of the net for its name."""
    _check_nets(nets, net.size)
    copies = [nets[name] for _, _, name in net.links]
    points = net.points + sum([copy.points - 2 for copy in copies])
    if points > MOST_POINTS:
        raise TooMany(MOST_POINTS)
    if sum([len(copy) for copy in copies]) > MOST_LINKS:
        raise TooMany(MOST_LINKS)
    starts = [0]
    for inner in nets:
        starts.append(starts[-1] + inner.size)
    if starts[-1] > MOST_NAMES:
        raise TooMany(MOST_NAMES)
    return Net(points, _links_of_copies(net, copies, starts, points), starts[-1])


def _links_of_copies(net, copies, starts, points):
    """Return the links of the copies, whose inner points stand behind all points of the net but the last."""
    links = []
    free = net.points - 1
    for (v, w, name), copy in zip(net.links, copies):
        inner = list(range(free, free + copy.points - 2))
        free = free + len(inner)
        # the last point of the net comes last in the net that is made
        spots = [v] + inner + [points - 1 if w == net.points - 1 else w]
        links.extend([(spots[one], spots[other], starts[name] + low) for one, other, low in copy.links])
    return links
