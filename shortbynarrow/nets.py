"""Nets: points and links between them that bear names."""

from shortbynarrow.checks import is_between, is_list, is_whole_number
from shortbynarrow.errors import BadNet, BadNumber, TooMany
from shortbynarrow.rows import Row

MOST_POINTS = 8
MOST_LINKS = 20
MOST_NAMES = 12


def _is_link(link, points):
    if not is_list(link) or len(link) != 3:
        return False
    ends = [is_between(end, 0, points - 1) for end in link[:2]]
    return all(ends) and link[0] != link[1] and is_whole_number(link[2]) and link[2] >= 0


def _check_links(points, links):
    if not is_list(links) or len(links) > MOST_LINKS:
        raise BadNet(-1)
    for place, link in enumerate(links):
        if not _is_link(link, points):
            raise BadNet(place)


class Net:
    """A number of points, links (v, w, name) with v < w, and a number of names."""

    def __init__(self, points, links, size):
        if not is_between(points, 2, MOST_POINTS):
            raise BadNumber("points")
        _check_links(points, links)
        if not is_between(size, 1, MOST_NAMES) or not all([name < size for _, _, name in links]):
            raise BadNumber("size")
        self.points = points
        self.links = tuple([(min(v, w), max(v, w), name) for v, w, name in links])
        self.size = size

    @classmethod
    def of_lots(cls, family):
        """Return the net in which each lot is a way from end to end."""
        if family.things > MOST_NAMES:
            raise TooMany(MOST_NAMES)
        last = 1 + sum([len(lot) - 1 for lot in family.lots])
        if last >= MOST_POINTS:
            raise TooMany(MOST_POINTS)
        links = []
        free = 1
        for lot in family.lots:
            inner = list(range(free, free + len(lot) - 1))
            links.extend(list(zip([0] + inner, inner + [last], lot)))
            free = free + len(inner)
        return cls(last + 1, links, family.things)

    def __eq__(self, other):
        return (isinstance(other, Net) and self.points == other.points and self.size == other.size
                and self.links == other.links)

    def __len__(self):
        return len(self.links)

    def row_of_contacts(self):
        """Return the row that has at each name the number of links that bear it."""
        counts = [0] * self.size
        for _, _, name in self.links:
            counts[name] = counts[name] + 1
        return Row(counts)

    def is_single(self):
        """Tell whether no name is on two links."""
        return max(self.row_of_contacts().tops) <= 1
