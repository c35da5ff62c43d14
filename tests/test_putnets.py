"""Point 133: nets put in."""

import random
import unittest

from shortbynarrow.errors import BadNet, NoWay, OtherSize, TooMany
from shortbynarrow.families import Family
from shortbynarrow.formulas import net_of_tree
from shortbynarrow.nets import Net
from shortbynarrow.putnets import put_nets
from shortbynarrow.rows import Row
from shortbynarrow.treetexts import tree_from
from shortbynarrow.ways import net_family
from tests.brute import NOT_LISTS
from tests.cases import Case
from tests.test_nets import random_net

ONE = Net(2, [(0, 1, 0)], 1)


def has_way(net):
    """Tell whether a net has a way."""
    try:
        return net_family(net) is not None
    except NoWay:
        return False


def put_by_definition(net, nets):
    """Return the points, links and size of the net that is made, each link laid by itself."""
    starts = [sum(one.size for one in nets[:e]) for e in range(len(nets))]
    links, free = [], net.points - 1
    points = net.points + sum(nets[name].points - 2 for _, _, name in net.links)
    for v, w, name in net.links:
        copy = nets[name]
        spot = {0: v, copy.points - 1: points - 1 if w == net.points - 1 else w}
        for point in range(1, copy.points - 1):
            spot[point] = free
            free += 1
        for one, two, low in copy.links:
            links.append((min(spot[one], spot[two]), max(spot[one], spot[two]), starts[name] + low))
    return points, tuple(links), sum(one.size for one in nets)


class PutNetsTest(Case):
    """The net that is made."""

    def test_example(self):
        chain = net_of_tree(tree_from("2(0 1(1 2))"), 3)
        made = put_nets(Net(2, [(0, 1, 1), (0, 1, 0)], 2), [Net(2, [(0, 1, 0)], 1), chain])
        self.assertEqual(
            [chain.links, made.points, made.links, made.size],
            [((0, 1, 0), (1, 2, 1), (1, 2, 2)), 3, ((0, 1, 1), (1, 2, 2), (1, 2, 3), (0, 2, 0)), 4])

    def test_link_by_link(self):
        rng = random.Random(3101)
        made = {8: 0, 20: 0, 12: 0, "made": 0, "families": 0}
        for _ in range(400):
            net = random_net(rng, 4, 5, 3)
            nets = [random_net(rng, 4, 5, 4) for _ in range(net.size)]
            points, links, size = put_by_definition(net, nets)
            if points > 8:
                limit = 8
            elif len(links) > 20:
                limit = 20
            elif size > 12:
                limit = 12
            else:
                limit = "made"
            made[limit] += 1
            if limit != "made":
                self.assert_error(TooMany(limit), put_nets, net, nets)
                continue
            found = put_nets(net, nets)
            self.assertEqual((found.points, found.links, found.size), (points, links, size))
            self.assertEqual(put_nets(net, tuple(nets)), found)
            self.check_row(net, nets, found)
            if all(has_way(one) for one in [net, *nets]):
                made["families"] += 1
                self.assertEqual(net_family(found), net_family(net)([net_family(one) for one in nets]))
        self.assertTrue(made[8] > 5 and made["made"] > 50 and made["families"] > 20)

    def check_row(self, net, nets, found):
        """Check the contact row of the net that is made."""
        outer = net.row_of_contacts().tops
        due = [outer[e] * top for e, one in enumerate(nets) for top in one.row_of_contacts().tops]
        self.assertEqual(found.row_of_contacts(), Row(due))

    def test_points_and_names(self):
        # a link whose first point is an inner one, and the last point in the middle of the numbers
        net = Net(4, [(0, 2, 0), (2, 1, 1), (1, 3, 0)], 3)
        chain = Net(3, [(2, 1, 1), (0, 1, 0)], 2)
        made = put_nets(net, [chain, ONE, Net(2, [], 4)])
        self.assertEqual(made.points, 6)
        self.assertEqual(made.links, ((2, 3, 1), (0, 3, 0), (1, 2, 2), (4, 5, 1), (1, 4, 0)))
        self.assertEqual(made.size, 7)
        self.assertEqual(put_nets(net, [ONE] * 3), net)
        self.assertEqual(put_nets(ONE, [chain]), chain)
        # a chain laid from a greater point to a lesser one is laid from the lesser one
        self.assertEqual(put_nets(Net(3, [(1, 0, 0), (2, 1, 1)], 2), [chain, ONE]).links,
                         ((1, 2, 1), (0, 2, 0), (1, 3, 2)))

    def test_no_links(self):
        self.assertEqual(put_nets(Net(3, [], 2), [ONE, ONE]), Net(3, [], 2))
        self.assertEqual(put_nets(Net(2, [(0, 1, 0)], 1), [Net(8, [], 5)]), Net(8, [], 5))
        # a net for a name on no link may be as great as it likes, but for its size
        great = Net(8, [(0, 7, 0)] * 20, 10)
        made = put_nets(Net(2, [(0, 1, 1)], 2), [great, ONE])
        self.assertEqual(made, Net(2, [(0, 1, 10)], 11))

    def test_the_list_stays_as_it_was(self):
        nets = [ONE, Net(2, [(0, 1, 1)], 2)]
        made = put_nets(Net(2, [(0, 1, 1), (0, 1, 0)], 2), nets)
        self.assertEqual(nets, [ONE, Net(2, [(0, 1, 1)], 2)])
        nets.clear()
        self.assertEqual(made.links, ((0, 1, 2), (0, 1, 0)))

    def test_errors_in_their_order(self):
        net = Net(3, [(0, 1, 0), (1, 2, 1)], 2)
        for wrong in NOT_LISTS + [ONE, net]:
            self.assert_error(BadNet(-1), put_nets, net, wrong)
        for wrong in (None, 5, "net", Family.single(), [ONE], Net, ONE.links):
            self.assert_error(BadNet(0), put_nets, net, [wrong])
            self.assert_error(BadNet(2), put_nets, net, [ONE, ONE, wrong, None])
        for many in (0, 1, 3):
            self.assert_error(OtherSize(many), put_nets, net, [Net(8, [], 12)] * many)
        long = Net(6, [(0, 5, 0)] * 20, 12)
        self.assert_error(TooMany(8), put_nets, net, [long, long])
        wide = Net(2, [(0, 1, 0)] * 11, 12)
        self.assert_error(TooMany(20), put_nets, net, [wide, wide])
        self.assert_error(TooMany(12), put_nets, net, [Net(2, [(0, 1, 0)], 12), ONE])
        self.assert_error(TooMany(12), put_nets, Net(2, [], 2), [Net(8, [], 7), Net(8, [], 6)])
        # just at the limits
        five = Net(4, [(0, 3, 0)] * 10, 6)
        made = put_nets(Net(4, [(0, 1, 0), (1, 3, 1)], 2), [five, five])
        self.assertEqual((made.points, len(made), made.size), (8, 20, 12))


if __name__ == "__main__":
    unittest.main()
