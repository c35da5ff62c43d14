"""Points 8 and 13: parts."""

import unittest
from itertools import permutations

from shortbynarrow.errors import BadSet, Clash, Lost
from shortbynarrow.families import Family
from shortbynarrow.parts import held, is_lost, left_out, part, parts_of, single_parts
from tests.brute import NOT_LISTS, least_sets, some_families, subsets
from tests.cases import Case


def step_by_step(family, steps):
    """Return the part made by steps (thing, word) one after another, None if it is lost."""
    for thing, word in steps:
        try:
            family = family - thing if word == "left" else family // thing
        except Lost:
            return None
    return family


class PartTest(Case):
    """All parts of small families."""

    def test_against_definition(self):
        for family in some_families(21, 40, most_things=4):
            other = ~family
            for left in subsets(range(family.things)):
                for kept in subsets(e for e in range(family.things) if e not in left):
                    self.check_part(family, other, left, kept)

    def check_part(self, family, other, left, kept):
        """Check one part, its loss and its blocker."""
        backward = (list(reversed(left)), list(reversed(kept)))
        lost = family.holds(kept) or other.holds(left)
        self.assertIs(is_lost(family, left, kept), lost)
        self.assertIs(is_lost(family, *backward), lost)
        if lost:
            held_lot = any(set(lot) <= set(kept) for lot in family.lots)
            error = Lost(kept[-1], "held") if held_lot else Lost(left[-1], "left")
            self.assert_error(error, part, family, left, kept)
            self.assert_error(error, part, family, *backward)
        else:
            found = part(family, left, kept)
            lots = [set(a) - set(kept) for a in family.lots if not set(a) & set(left)]
            self.assert_same(found.lots, least_sets(lots))
            self.assertEqual(found.things, family.things)
            self.assertEqual(part(family, *backward), found)
            self.assertEqual(~found, part(other, kept, left))
        steps = [(e, "left") for e in left] + [(e, "held") for e in kept]
        for order in permutations(steps):
            made = step_by_step(family, order)
            self.assertEqual(made is None, lost)
            if not lost:
                self.assertEqual(made, found)

    def test_left_out_and_held(self):
        for family in some_families(22, 60):
            for some in subsets(range(family.things)):
                for call, sides in ((left_out, (some, ())), (held, ((), some))):
                    if is_lost(family, *sides):
                        word = "left" if call is left_out else "held"
                        self.assert_error(Lost(some[-1], word), call, family, list(some))
                    else:
                        self.assertEqual(call(family, list(some)), part(family, *sides))

    def test_word_of_loss(self):
        family = Family(4, [[0, 1], [0, 2]])
        self.assert_error(Lost(2, "held"), part, family, [1], [2, 0])
        self.assert_error(Lost(3, "held"), part, family, [], [3, 1, 0])
        self.assert_error(Lost(3, "left"), part, family, [3, 0], [])
        self.assert_error(Lost(1, "held"), part, Family(2, [[1]]), [0], [1])
        self.assert_error(Lost(1, "left"), part, Family(2, [[1]]), [1], [0])

    def test_errors_in_turn(self):
        family = Family(3, [[0, 1]])
        for wrong in NOT_LISTS:
            for call in (part, is_lost):
                self.assert_error(BadSet(-1), call, family, wrong, [7])
                self.assert_error(BadSet(-1), call, family, [0, 1], wrong)
            self.assert_error(BadSet(-1), left_out, family, wrong)
            self.assert_error(BadSet(-1), held, family, wrong)
        for call in (part, is_lost):
            self.assert_error(BadSet(1), call, family, [1, 3], [1, 1])
            self.assert_error(BadSet(1), call, family, [1], [1, 1])
            self.assert_error(BadSet(0), call, family, [True], [1])
            self.assert_error(Clash(1), call, family, [2, 1, 0], [2, 1])
            self.assert_error(Clash(0), call, family, [0, 1], [1, 0])
        self.assert_error(BadSet(0), left_out, family, [3])
        self.assert_error(BadSet(0), held, family, [-1])


class ListsOfPartsTest(Case):
    """parts_of and single_parts."""

    def test_parts_of(self):
        for family in some_families(23, 60, most_things=4):
            useful, expected = family.useful, []
            for left in sorted(subsets(useful)):
                for kept in sorted(subsets(e for e in useful if e not in left)):
                    if not is_lost(family, left, kept):
                        expected.append((left, kept, part(family, left, kept)))
            found = list(parts_of(family))
            self.assertEqual(found, expected)
            self.assertEqual(found[0], ((), (), family))
            self.assertTrue(all(type(entry) is tuple for entry in found))
        made = parts_of(Family.single())
        self.assertIs(iter(made), made)
        self.assertEqual(list(made), [((), (), Family.single())])

    def test_parts_of_seven_things(self):
        lots = [[i, (i + 1) % 7, (i + 3) % 7] for i in range(7)]
        found = list(parts_of(Family(9, lots)))
        self.assertEqual(len(found), len({(left, kept) for left, kept, _ in found}))
        self.assertTrue(all(made.things == 9 for _, _, made in found))

    def test_single_parts(self):
        for family in some_families(24, 100):
            expected = []
            for thing in family.useful:
                if not is_lost(family, [], [thing]):
                    expected.append((thing, "held", family // thing))
                if not is_lost(family, [thing], []):
                    expected.append((thing, "left", family - thing))
            self.assertEqual(single_parts(family), expected)
        self.assertEqual(single_parts(Family(2, [[1]])), [])
        self.assertEqual(single_parts(Family(2, [[0, 1]])),
                         [(0, "held", Family(2, [[1]])), (1, "held", Family(2, [[0]]))])


if __name__ == "__main__":
    unittest.main()
