"""Points 121 and 124: nets and their contact rows."""

import random
import unittest

from shortbynarrow.errors import BadNet, BadNumber, NoWay, TooMany
from shortbynarrow.families import Family
from shortbynarrow.lengths import narrow, short
from shortbynarrow.nets import Net
from shortbynarrow.pricing import price
from shortbynarrow.rows import Row
from shortbynarrow.shapes import fan, four_points, ring, seven_lines, votes
from shortbynarrow.strains import is_calm
from shortbynarrow.ways import net_family
from tests.brute import NOT_LISTS, NOT_NUMBERS, fraction, random_row_of, some_families
from tests.cases import Case


def random_net(rng, most_points=5, most_links=8, most_names=5):
    """Return a random net; it may have no way, and some links may join the same points."""
    points = rng.randint(2, most_points)
    size = rng.randint(1, most_names)
    links = [(*rng.sample(range(points), 2), rng.randrange(size)) for _ in range(rng.randint(0, most_links))]
    return Net(points, links, size)


def some_nets(seed, count, *most):
    """Return random nets."""
    rng = random.Random(seed)
    return [random_net(rng, *most) for _ in range(count)]


def some_nets_with_ways(seed, count, *most):
    """Return those random nets that have a way."""
    found = []
    for net in some_nets(seed, count, *most):
        try:
            net_family(net)
            found.append(net)
        except NoWay:
            pass
    return found


class NetTest(Case):
    """Point 121."""

    def test_attributes(self):
        links = [[0, 1, 0], (3, 1, 1), [2, 0, 2]]
        net = Net(4, links, 3)
        self.assert_same(net.links, ((0, 1, 0), (1, 3, 1), (0, 2, 2)))
        self.assertEqual((net.points, net.size, len(net)), (4, 3, 3))
        links[0][0] = 2
        links.append((0, 3, 0))
        self.assertEqual(net.links, ((0, 1, 0), (1, 3, 1), (0, 2, 2)))
        self.assertEqual(Net(4, tuple(links), 3), Net(4, links, 3))

    def test_several_links_between_two_points(self):
        net = Net(2, [(0, 1, 0), (1, 0, 0), (0, 1, 2)], 4)
        self.assertEqual(net.links, ((0, 1, 0), (0, 1, 0), (0, 1, 2)))
        self.assertEqual(net.row_of_contacts(), Row([2, 0, 1, 0]))
        self.assertIs(net.is_single(), False)

    def test_no_links(self):
        net = Net(8, [], 12)
        self.assertEqual((net.links, len(net)), ((), 0))
        self.assertEqual(net.row_of_contacts(), Row([0] * 12))
        self.assertIs(net.is_single(), True)

    def test_contact_rows(self):
        for net in some_nets(2701, 120, 8, 20, 12):
            names = [link[2] for link in net.links]
            row = net.row_of_contacts()
            self.assertIs(type(row), Row)
            self.assertEqual(row, Row([names.count(e) for e in range(net.size)]))
            self.assertIs(net.is_single(), len(set(names)) == len(names))
            self.assertEqual(len(net), len(names))

    def test_equality(self):
        net = Net(3, [(0, 1, 0), (1, 2, 1)], 2)
        self.assertTrue(net == Net(3, [(1, 0, 0), [2, 1, 1]], 2))
        others = [Net(4, [(0, 1, 0), (1, 2, 1)], 2), Net(3, [(0, 1, 0), (1, 2, 1)], 3), Net(3, [(0, 1, 0)], 2),
                  Net(3, [(1, 2, 1), (0, 1, 0)], 2), Net(3, [(0, 1, 0), (1, 2, 0)], 2), 5, None, "net", net.links, Net]
        for other in others:
            self.assertIs(net == other, False)
            self.assertTrue(net != other)

    def test_of_lots(self):
        made = 0
        for family in some_families(2702, 120, 5, 4) + [fan(3), ring(3), votes(1, 12), Family(12, [(3, 7, 11), (0,)])]:
            inner = sum(len(lot) - 1 for lot in family)
            if inner > 6:
                self.assert_error(TooMany(8), Net.of_lots, family)
                continue
            made += 1
            net = Net.of_lots(family)
            self.assertEqual((net.points, net.size), (inner + 2, family.things))
            self.assertEqual(net_family(net), family)
            counts = [len(family.lots_at(e)) for e in range(family.things)]
            self.assertEqual(net.row_of_contacts(), Row(counts))
        self.assertGreater(made, 40)

    def test_of_lots_link_by_link(self):
        net = Net.of_lots(Family(7, [(5, 2, 3), (0, 6), (4,)]))
        self.assertEqual(net.links, ((0, 1, 0), (1, 4, 6), (0, 2, 2), (2, 3, 3), (3, 4, 5), (0, 4, 4)))
        self.assertEqual((net.points, net.size), (5, 7))
        self.assertEqual(Net.of_lots(Family.single()), Net(2, [(0, 1, 0)], 1))
        self.assertEqual(Net.of_lots(votes(7, 7)).links, tuple((e, e + 1, e) for e in range(7)))
        self.assertEqual(Net.of_lots(ring(6)).points, 8)
        # twelve things: six pairs need eight points
        pairs = Net.of_lots(Family(12, [(2 * k, 2 * k + 1) for k in range(6)]))
        self.assertEqual((pairs.points, len(pairs)), (8, 12))


class FactsTest(Case):
    """Point 124."""

    def test_short_times_narrow(self):
        rng = random.Random(2703)
        for net in some_nets_with_ways(2704, 120):
            family, row = net_family(net), net.row_of_contacts()
            for _ in range(4):
                one, two = random_row_of(rng, net.size), random_row_of(rng, net.size)
                product = fraction(short(family, one)) * fraction(narrow(family, two))
                self.assertLessEqual(product, fraction((row * one).dot(two)))
            self.assertGreaterEqual(fraction(price(family, row)), 1)

    def test_single_nets_are_calm(self):
        rng = random.Random(2705)
        made = 0
        for _ in range(150):
            points = rng.randint(2, 6)
            links = [(*rng.sample(range(points), 2), e) for e in range(rng.randint(1, 7))]
            net = Net(points, links, 7)
            self.assertIs(net.is_single(), True)
            try:
                family = net_family(net)
            except NoWay:
                continue
            made += 1
            self.assertIs(is_calm(family), True)
        self.assertGreater(made, 60)

    def test_lots_that_are_not_calm(self):
        for family in (ring(3), ring(5), fan(4)):
            if sum(len(lot) - 1 for lot in family) <= 6:
                row = Net.of_lots(family).row_of_contacts()
                self.assertGreaterEqual(fraction(price(family, row)), 1)


class ErrorsTest(Case):
    """The errors, in their order."""

    def test_points(self):
        for wrong in NOT_NUMBERS + [0, 1, 9, -2, 10 ** 40]:
            self.assert_error(BadNumber("points"), Net, wrong, None, None)
            self.assert_error(BadNumber("points"), Net, wrong, [(0, 1, 0)], 1)

    def test_links(self):
        for wrong in NOT_LISTS:
            self.assert_error(BadNet(-1), Net, 3, wrong, None)
        self.assert_error(BadNet(-1), Net, 3, [(0, 1, 0)] * 21, None)
        self.assert_error(BadNet(-1), Net, 3, [None] * 21, 1)
        entries = [None, 5, "010", (0, 1), (0, 1, 0, 0), (), (0, 0, 0), (2, 2, 0), (0, 3, 0), (3, 0, 0), (-1, 1, 0),
                   (0, True, 0), (False, 1, 0), (0, "1", 0), (0, 1.0, 0), (0, None, 0), (0, 1, -1), (0, 1, True),
                   (0, 1, None), (0, 1, "0"), (0, 1, 0.0), {0: 1, 1: 2, 2: 0}]
        for wrong in entries:
            self.assert_error(BadNet(0), Net, 3, [wrong], None)
            self.assert_error(BadNet(2), Net, 3, [(0, 1, 0), [1, 2, 99], wrong, None], None)
        self.assertEqual(len(Net(3, [(0, 1, 0)] * 20, 1)), 20)

    def test_size(self):
        for wrong in NOT_NUMBERS + [0, -1, 13, 10 ** 40]:
            self.assert_error(BadNumber("size"), Net, 3, [], wrong)
            self.assert_error(BadNumber("size"), Net, 3, [(0, 1, 0)], wrong)
        self.assert_error(BadNumber("size"), Net, 3, [(0, 1, 5), (1, 2, 0)], 5)
        self.assert_error(BadNumber("size"), Net, 3, [(0, 1, 12)], 12)
        self.assert_error(BadNumber("size"), Net, 3, [(0, 1, 10 ** 40)], 12)
        self.assertEqual(Net(3, [(0, 1, 11)], 12).size, 12)

    def test_of_lots(self):
        self.assert_error(TooMany(12), Net.of_lots, Family(13, [(0,)]))
        self.assert_error(TooMany(12), Net.of_lots, votes(7, 13))
        self.assert_error(TooMany(8), Net.of_lots, votes(7, 12))
        self.assert_error(TooMany(8), Net.of_lots, votes(8, 8))
        for family in (four_points(), seven_lines(), ring(7)):
            self.assert_error(TooMany(8), Net.of_lots, family)


if __name__ == "__main__":
    unittest.main()
