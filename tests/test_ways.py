"""Points 122 and 123: ways, cuts, the family of a net, distances and levels."""

import random
import unittest
from fractions import Fraction
from itertools import combinations, permutations

from shortbynarrow.errors import BadAmount, BadRow, NoWay, OtherSize
from shortbynarrow.families import Family
from shortbynarrow.lengths import narrow, short
from shortbynarrow.nets import Net
from shortbynarrow.rows import Row
from shortbynarrow.ways import cut_at, cuts_of, distances, net_family, ways_of
from tests.brute import amount_of, fraction, fractions, is_amount, least_sets, random_row_of, subsets
from tests.cases import Case
from tests.test_nets import some_nets, some_nets_with_ways


def ways_by_definition(net, end):
    """Return all tuples of link numbers that lead from point 0 to the end and meet no point twice."""
    if end == 0:
        return [()]
    found = []
    others = [point for point in range(1, net.points) if point != end]
    for many in range(len(others) + 1):
        for middle in permutations(others, many):
            points = (0, *middle, end)
            ways = [()]
            for pair in zip(points, points[1:]):
                fitting = [k for k, link in enumerate(net.links) if link[:2] == tuple(sorted(pair))]
                ways = [way + (k,) for way in ways for k in fitting]
            found.extend(ways)
    return sorted(found)


def cuts_by_definition(net):
    """Return all cuts, ascending, each once."""
    found = set()
    for inner in subsets(range(1, net.points - 1)):
        side = {0, *inner}
        found.add(tuple(k for k, (v, w, _) in enumerate(net.links) if (v in side) != (w in side)))
    return sorted(found)


def name_sets(net, tuples):
    """Return the sets of names of some tuples of links."""
    return [{net.links[k][2] for k in one} for one in tuples]


class WaysTest(Case):
    """Point 122."""

    def test_example(self):
        net = Net(4, [(0, 1, 0), (0, 2, 1), (3, 1, 1), (2, 3, 0), (1, 2, 2)], 3)
        self.assertEqual(
            [ways_of(net), cuts_of(net), net_family(net).lots, distances(net, [2, 1, 1]),
             cut_at(net, [2, 1, 1], (3, 2))],
            [[(0, 2), (0, 4, 3), (1, 3), (1, 4, 2)], [(0, 1), (0, 3, 4), (1, 2, 4), (2, 3)],
             ((0, 1), (0, 2), (1, 2)), ((0, 1), (2, 1), (1, 1), (3, 1)), (0, 3, 4)])

    def test_against_the_definition(self):
        without = 0
        for net in some_nets(2801, 200, 5, 9, 6):
            due = ways_by_definition(net, net.points - 1)
            self.assert_same(cuts_of(net), cuts_by_definition(net))
            if not due:
                without += 1
                self.assert_error(NoWay(), ways_of, net)
                self.assert_error(NoWay(), net_family, net)
                self.assertIn((), cuts_of(net))
                continue
            self.assert_same(ways_of(net), due)
            self.assertNotIn((), cuts_of(net))
            family = net_family(net)
            self.assertEqual(family.things, net.size)
            self.assertEqual(family.lots, least_sets(name_sets(net, due)))
            self.assertEqual((~family).lots, least_sets(name_sets(net, cuts_of(net))))
        self.assertGreater(without, 20)

    def test_new_lists(self):
        net = Net(3, [(0, 1, 0), (1, 2, 1)], 2)
        for call in (ways_of, cuts_of):
            first = call(net)
            self.assertIs(type(first), list)
            first.append(None)
            self.assertNotIn(None, call(net))

    def test_small_nets(self):
        self.assertEqual(cuts_of(Net(2, [], 1)), [()])
        self.assertEqual(cuts_of(Net(3, [(0, 1, 0)], 1)), [(), (0,)])
        self.assertEqual(ways_of(Net(2, [(1, 0, 2), (0, 1, 2)], 4)), [(0,), (1,)])
        self.assertEqual(net_family(Net(2, [(1, 0, 2), (0, 1, 2)], 4)), Family(4, [(2,)]))
        # one name twice on a way
        self.assertEqual(net_family(Net(3, [(0, 1, 0), (1, 2, 0)], 1)), Family.single())
        self.assert_error(NoWay(), ways_of, Net(8, [], 1))

    def test_great_nets(self):
        links = [(k, k + 1, (3 * k + j) % 12) for k in range(6) for j in range(3)] + [(6, 7, 0), (6, 7, 11)]
        chain = Net(8, links, 12)
        self.assertEqual(len(chain), 20)
        ways = ways_of(chain)
        self.assertEqual((len(ways), ways[0], ways[-1]), (1458, (0, 3, 6, 9, 12, 15, 18), (2, 5, 8, 11, 14, 17, 19)))
        self.assertEqual(ways, sorted(ways))
        self.assertEqual(len(cuts_of(chain)), 64)
        wide = Net(8, [(*pair, k % 12) for k, pair in enumerate(list(combinations(range(8), 2))[:20])], 12)
        self.assertEqual(ways_of(wide), ways_by_definition(wide, 7))
        family = net_family(wide)
        self.assertEqual((~family).lots, least_sets(name_sets(wide, cuts_of(wide))))


class DistancesTest(Case):
    """Point 123."""

    def test_against_the_definition(self):
        rng = random.Random(2802)
        for net in some_nets(2803, 120, 5, 9, 6):
            lengths = random_row_of(rng, net.size)
            entries = fractions(lengths)
            found = distances(net, lengths)
            self.assertIs(type(found), tuple)
            for point in range(net.points):
                sums = [sum(entries[net.links[k][2]] for k in way) for way in ways_by_definition(net, point)]
                self.assert_same(found[point], amount_of(min(sums) + Fraction(0)) if sums else None)
            for v, w, name in net.links:
                if found[v] is None:
                    self.assertIsNone(found[w])
                else:
                    self.assertLessEqual(abs(fraction(found[v]) - fraction(found[w])), entries[name])
            if found[-1] is not None:
                # a name counts at each of its links
                least = fraction(short(net_family(net), lengths))
                self.assertGreaterEqual(fraction(found[-1]), least)
                if net.is_single():
                    self.assertEqual(fraction(found[-1]), least)

    def test_cuts_at_levels(self):
        rng = random.Random(2804)
        for net in some_nets_with_ways(2805, 150, 6, 10, 6):
            family = net_family(net)
            lengths, widths = random_row_of(rng, net.size), random_row_of(rng, net.size)
            far = distances(net, lengths)
            last = fraction(far[-1])
            levels = sorted({fraction(value) for value in far if value is not None and fraction(value) <= last})
            if last == 0:
                self.assert_error(BadAmount("level"), cut_at, net, lengths, 0)
                continue
            total = Fraction(0)
            for low, high in zip(levels, levels[1:]):
                for level in (low, (low + high) / 2):
                    found = cut_at(net, lengths, amount_of(level))
                    near = {p for p, value in enumerate(far) if value is not None and fraction(value) <= level}
                    due = tuple(k for k, (v, w, _) in enumerate(net.links) if (v in near) != (w in near))
                    self.assert_same(found, due)
                    self.assertIn(found, cuts_of(net))
                    self.assertTrue((~family).holds(sorted({net.links[k][2] for k in found})))
                width = sum(fractions(widths)[net.links[k][2]] for k in cut_at(net, lengths, amount_of(low)))
                total += (high - low) * width
            self.assertLessEqual(total, fraction((net.row_of_contacts() * lengths).dot(widths)))
            self.assertGreaterEqual(total, fraction(short(family, lengths)) * fraction(narrow(family, widths)))
            for level in (last, last + 1):
                self.assert_error(BadAmount("level"), cut_at, net, lengths, amount_of(level))

    def test_levels_as_integers_and_lists(self):
        net = Net(4, [(0, 1, 0), (1, 2, 1), (2, 3, 2)], 3)
        for level in (1, (1, 1), [1, 1], [7, 7], (1, 1)):
            self.assertEqual(cut_at(net, [1, 1, 1], level), (1,))
        self.assertEqual(cut_at(net, [1, 1, 1], [5, 2]), (2,))
        self.assertEqual(cut_at(net, [0, 0, 1], 0), (2,))

    def test_points_without_distance(self):
        net = Net(4, [(0, 3, 0), (1, 2, 1)], 2)
        self.assertEqual(distances(net, [5, 1]), ((0, 1), None, None, (5, 1)))
        self.assertEqual(cut_at(net, [5, 1], 4), (0,))
        # a way to an inner point over the last point
        net = Net(3, [(0, 2, 0), (2, 1, 1)], 2)
        self.assertEqual(distances(net, [5, 1]), ((0, 1), (6, 1), (5, 1)))

    def test_great_numbers(self):
        links = [(k, k + 1, (3 * k + j) % 12) for k in range(6) for j in range(3)] + [(6, 7, 0), (6, 7, 11)]
        net = Net(8, links, 12)
        lengths = Row([10 ** 39 + 7 ** e for e in range(12)], 10 ** 38 + 9)
        found = distances(net, lengths)
        self.assertTrue(all(is_amount(value) for value in found))
        self.assertEqual(len(cut_at(net, lengths, found[-2])), 2)
        self.assertEqual(len(cut_at(net, lengths, found[3])), 3)

    def test_errors(self):
        net = Net(3, [(0, 1, 0), (1, 2, 1)], 3)
        self.assert_row_errors(3, lambda row: distances(net, row))
        self.assert_row_errors(3, lambda row: cut_at(net, row, None))
        apart = Net(3, [(0, 1, 0)], 3)
        for wrong in (None, -1, True, "1", (1, 0), (-1, 2), (1,), (1, 2, 3), 0.5, [1, None], (True, 1)):
            self.assert_error(BadAmount("level"), cut_at, net, [1, 1, 1], wrong)
            self.assert_error(BadAmount("level"), cut_at, apart, [1, 1, 1], wrong)
            self.assert_error(OtherSize(2), cut_at, apart, [1, 1], wrong)
            self.assert_error(BadRow(1), cut_at, apart, [1, None], wrong)
        for level in (0, 1, (1, 2), 10 ** 40):
            self.assert_error(NoWay(), cut_at, apart, [1, 1, 1], level)
        for level in (2, (4, 2), [5, 2], 10 ** 40):
            self.assert_error(BadAmount("level"), cut_at, net, [1, 1, 1], level)
        self.assertEqual(cut_at(net, [1, 1, 1], (10 ** 40 - 1, 10 ** 40)), (0,))
        self.assertEqual(cut_at(net, [1, 1, 1], (2 * 10 ** 39 - 1, 10 ** 39)), (1,))


if __name__ == "__main__":
    unittest.main()
