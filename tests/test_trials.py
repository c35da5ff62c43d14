"""Point 145: trials."""

import random
import unittest

from shortbynarrow.deeds import deed_text
from shortbynarrow.desks import Desk
from shortbynarrow.errors import (
    BadDeed, BadFamily, BadLots, BadNames, BadSet, BadThing, EmptyLot, Lost, NoLots, NothingBack, TooMany, Trouble,
)
from shortbynarrow.families import Family
from shortbynarrow.rows import Row
from shortbynarrow.shapes import ring, votes
from shortbynarrow.trials import Trial, tried
from tests.brute import NOT_LISTS, rich_families
from tests.cases import Case
from tests.test_desks import do, facts, random_deed


def desk_with(family, tolls, deeds):
    """Return a desk at which some deeds were done."""
    desk = Desk(family, tolls=tolls)
    for deed in deeds:
        do(desk, deed)
    return desk


def all_states(desk):
    """Return what a desk tells now and ahead of each of its deeds; the desk is behind it as it was."""
    found = [facts(desk)]
    with Trial(desk):
        while len(desk):
            desk.back()
            found.append(facts(desk))
    return found


class TriedTest(Case):
    """tried."""

    def assert_told(self, found, due):
        """Check prices, and errors by class and attributes."""
        self.assertIs(type(found), list)
        self.assertEqual(len(found), len(due))
        for one, other in zip(found, due):
            if isinstance(other, Trouble):
                self.assertIs(type(one), type(other))
                self.assertEqual(vars(one), vars(other))
            else:
                self.assert_same(one, other)

    def test_example(self):
        desk = Desk(votes(2, 3))
        found = tried(desk, [("turn",), ("hold", 0), ("put", 1, votes(2, 3)), ("back",), ("toll", 2, 3)])
        self.assertEqual([found, list(desk), desk.price_now()], [[(3, 4), (1, 1), (3, 4), (1, 1), (1, 1)], [], (3, 4)])

    def test_errors_are_told(self):
        desk = desk_with(Family(4, [(0, 1), (0, 2)]), [3, 2, 1, 7], [("turn",), ("turn",)])
        before = all_states(desk)
        found = tried(desk, [
            ("hold", 9), ("leave", 0), ("put lot", []), ("put lot", [0, 0]), ("drop lot", [1]), ("drop lot", [1, 0]),
            ("drop lot", [2, 0]), ("put", -1, ring(3)), ("put", 0, ring(8)), ("merge", [], 2), ("merge", [0, 0, 0, 0], 2),
            ("back",), ("back",), ("back",), ("back",), ("toll", 0, 1),
        ])
        self.assert_told(found, [
            BadThing(9), Lost(0, "left"), EmptyLot(0), BadSet(1), BadLots(0), (1, 1), NoLots(), BadThing(-1),
            TooMany(7), BadNames(-1), BadNames(-1), (1, 1), (1, 1), (1, 1), NothingBack(), (1, 1)])
        self.assertEqual(all_states(desk), before)
        self.assertEqual(desk.deeds, ("turn", "turn"))

    def test_against_a_second_desk(self):
        rng = random.Random(3501)
        kinds = {"price": 0, "error": 0, "back": 0}
        for family in rich_families(3502, 60, 3, 6):
            tolls = [rng.randint(1, 4) for _ in range(family.things)]
            first = []
            while len(first) < 3:
                deed = random_deed(rng, family.things)
                if deed[0] in ("toll", "turn") and 0 <= (deed + (0,))[1] < family.things and (deed + (0, 1))[2] > 0:
                    first.append(deed)
            desk, twin = desk_with(family, tolls, first), desk_with(family, tolls, first)
            before = all_states(desk)
            deeds = [random_deed(rng, family.things) for _ in range(12)] + [("back",)] * rng.randint(0, 5)
            deeds = [list(deed) if rng.random() < 0.5 else deed for deed in deeds]
            due = []
            for deed in deeds:
                try:
                    due.append(do(twin, tuple(deed)))
                    kinds["back" if deed[0] == "back" else "price"] += 1
                except Trouble as fault:
                    due.append(fault)
                    kinds["error"] += 1
            found = tried(desk, tuple(deeds) if rng.random() < 0.5 else deeds)
            self.assert_told(found, due)
            self.assertEqual(all_states(desk), before)
            self.assert_told(tried(desk, deeds), due)
        self.assertTrue(min(kinds.values()) > 50)

    def test_back_beyond_the_deeds(self):
        desk = desk_with(votes(2, 3), None, [("toll", 0, 5), ("hold", 1), ("turn",)])
        before = all_states(desk)
        found = tried(desk, [("back",)] * 4 + [("toll", 1, 9)])
        self.assertEqual(found[:3], [(1, 1), (1, 1), (3, 4)])
        self.assert_told(found[3:4], [NothingBack()])
        self.assertEqual(found[4], (1, 1))
        self.assertEqual(all_states(desk), before)
        self.assertEqual(desk.back(), (1, 1))
        self.assertEqual(desk.deeds, ("toll 0 5", "hold 1"))

    def test_the_object_itself(self):
        desk = Desk(votes(2, 3))
        one, two = tried(desk, [("hold", 7), ("hold", 7)])
        self.assertTrue(isinstance(one, BadThing) and isinstance(two, BadThing))
        self.assertIsNot(one, two)
        self.assertEqual((one.thing, two.thing), (7, 7))

    def test_nothing_tried(self):
        desk = Desk(votes(2, 3))
        self.assert_same(tried(desk, []), [])
        self.assert_same(tried(desk, ()), [])

    def test_the_list_stays_as_it_was(self):
        deeds = [["put lot", [1, 0]], ["merge", [0, 0, 1], 2], ("back",)]
        desk = Desk(votes(2, 3))
        found = tried(desk, deeds)
        self.assertEqual(deeds, [["put lot", [1, 0]], ["merge", [0, 0, 1], 2], ("back",)])
        found.append(None)
        self.assertEqual(len(tried(desk, deeds)), 3)

    def test_wrong_deeds(self):
        desk = Desk(votes(2, 3))
        desk.turn()
        before = all_states(desk)
        for wrong in NOT_LISTS + [Family.single()]:
            self.assert_error(BadDeed("deeds"), tried, desk, wrong)
        # a single deed is no list of deeds
        self.assert_error(BadDeed("deed"), tried, desk, ("turn",))
        for wrong in (None, "turn", ("undo",), ("toll", 1), ("put", 0, None), (), ("turn", 1), ("hold", True)):
            self.assert_error(BadDeed("deed"), tried, desk, [wrong])
            self.assert_error(BadDeed("deed"), tried, desk, [("toll", 0, 5), ("hold", 99), wrong, ("turn",)])
            self.assertEqual(all_states(desk), before)

    def test_all_errors_of_put(self):
        desk = Desk(ring(7))
        found = tried(desk, [("put", 0, votes(2, 2)), ("put", 7, ring(60)), ("put", 0, Family(60, [(3,)]))])
        self.assert_told(found, [TooMany(7), BadThing(7), TooMany(12)])
        self.assert_error(BadFamily(0), desk.put, 0, None)


class TrialTest(Case):
    """Trial."""

    def test_deeds_in_the_block(self):
        desk = desk_with(votes(2, 3), [1, 2, 3], [("toll", 0, 5)])
        before = all_states(desk)
        with Trial(desk) as held:
            self.assertIs(held, desk)
            held.hold(1)
            desk.turn()
            self.assertEqual(desk.deeds, ("toll 0 5", "hold 1", "turn"))
        self.assertEqual(all_states(desk), before)
        self.assertEqual(desk.hold(2), desk.price_now())
        self.assertEqual(desk.deeds, ("toll 0 5", "hold 2"))

    def test_undone_deeds(self):
        desk = desk_with(votes(2, 3), [1, 2, 3], [("toll", 0, 5), ("hold", 1)])
        before = all_states(desk)
        with Trial(desk):
            desk.back()
            desk.back()
            self.assert_error(NothingBack(), desk.back)
            desk.put(0, votes(2, 3))
        self.assertEqual(all_states(desk), before)
        self.assertEqual(desk.family_now, votes(2, 3) // 1)
        desk.back()
        desk.back()
        self.assertEqual(facts(desk), (votes(2, 3), Row([1, 2, 3]), ()))

    def test_an_error_leaves_the_block(self):
        desk = desk_with(votes(2, 3), [1, 2, 3], [("toll", 0, 5)])
        before = all_states(desk)
        for fault in (ValueError("own"), BadThing(9), KeyError(1)):
            with self.assertRaises(type(fault)) as caught:
                with Trial(desk) as held:
                    held.turn()
                    held.leave(0)
                    raise fault
            self.assertIs(caught.exception, fault)
            self.assertEqual(all_states(desk), before)
        with self.assertRaises(BadThing):
            with Trial(desk):
                desk.back()
                desk.hold(77)
        self.assertEqual(all_states(desk), before)

    def leave_by_return(self, desk):
        """Return from within a block."""
        with Trial(desk) as held:
            held.turn()
            return held.deeds

    def test_left_by_return(self):
        desk = Desk(ring(5))
        self.assertEqual(self.leave_by_return(desk), ("turn",))
        self.assertEqual(desk.deeds, ())

    def test_one_in_another(self):
        desk = Desk(ring(5))
        with Trial(desk):
            desk.turn()
            inside = all_states(desk)
            with Trial(desk):
                desk.back()
                desk.hold(3)
                self.assertEqual(tried(desk, [("back",), ("back",)])[0], (5, 6))
            self.assertEqual(all_states(desk), inside)
        self.assertEqual(facts(desk), (ring(5), Row([1] * 5), ()))

    def test_one_trial_again_and_again(self):
        desk = Desk(ring(5))
        trial = Trial(desk)
        desk.set_toll(0, 3)
        for thing in range(3):
            before = all_states(desk)
            with trial as held:
                held.hold(thing)
            self.assertEqual(all_states(desk), before)
            desk.set_toll(thing, 7)
        self.assertEqual(desk.deeds, ("toll 0 3", "toll 0 7", "toll 1 7", "toll 2 7"))

    def test_texts(self):
        desk = Desk(ring(5))
        with Trial(desk):
            desk.put_lot([3, 1])
            self.assertEqual(desk.deeds, (deed_text(("put lot", [3, 1])),))


if __name__ == "__main__":
    unittest.main()
