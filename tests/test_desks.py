"""Points 141, 143 and 144: desks."""

import random
import unittest
from fractions import Fraction

from shortbynarrow.contacts import contacts
from shortbynarrow.deeds import deed_text
from shortbynarrow.desks import Desk
from shortbynarrow.errors import (
    BadDeed, BadFamily, BadLots, BadNames, BadNumber, BadRow, BadSet, BadThing, EmptyLot, Lost, NoLots, NothingBack,
    OtherSize, TooMany, Trouble,
)
from shortbynarrow.families import Family
from shortbynarrow.loads import greatest_rise, rise
from shortbynarrow.plays import Play
from shortbynarrow.pricing import best_pair, price
from shortbynarrow.putting import merged
from shortbynarrow.rows import Row
from shortbynarrow.shapes import fan, ring, seven_lines, votes
from shortbynarrow.strains import strain
from tests.brute import NOT_LISTS, NOT_NUMBERS, fraction, random_family, rich_families, some_families, useless_beside
from tests.cases import Case

S = Family.single()


def facts(desk):
    """Return the family, the tolls and the deeds of a desk."""
    return desk.family_now, desk.tolls_now, desk.deeds


def do(desk, deed):
    """Do a deed that is told as a tuple."""
    method = {"toll": desk.set_toll, "hold": desk.hold, "leave": desk.leave, "put lot": desk.put_lot,
              "drop lot": desk.drop_lot, "put": desk.put, "merge": desk.merge, "turn": desk.turn, "back": desk.back}
    return method[deed[0]](*deed[1:])


def random_deed(rng, things, lots=((0, 1),)):
    """Return a random deed; it may be refused."""
    thing = rng.randint(-1, things)
    lot = rng.sample(range(things), rng.randint(0, min(3, things)))
    size = rng.randint(1, things)
    return rng.choice([
        ("toll", thing, rng.randint(0, 6)), ("toll", thing, rng.randint(1, 6)), ("hold", thing), ("leave", thing),
        ("put lot", lot), ("put lot", lot), ("drop lot", lot), ("put", thing, rng.choice([S, votes(2, 2), votes(2, 3)])),
        ("put", thing, random_family(rng, rng.randint(1, 4), 3)), ("turn",), ("back",),
        ("merge", [rng.randrange(size) for _ in range(things)], size),
        ("merge", rng.sample([k % size for k in range(things)], things), size),
        ("drop lot", list(reversed(rng.choice(lots)))),
    ])


def behind(family, tolls, deed):
    """Return the family and the tolls behind a deed that is done, from the definition."""
    word, tops = deed[0], list(tolls.tops)
    if word == "toll":
        tops[deed[1]] = deed[2]
        return family, Row(tops)
    if word == "hold":
        return family // deed[1], tolls
    if word == "leave":
        return family - deed[1], tolls
    if word == "put lot":
        return Family(family.things, [*family.lots, deed[1]]), tolls
    if word == "drop lot":
        return Family(family.things, [lot for lot in family.lots if lot != tuple(sorted(deed[1]))]), tolls
    if word == "put":
        inner = [deed[2] if e == deed[1] else S for e in range(family.things)]
        return family(inner), Row([tops[e] for e, one in enumerate(inner) for _ in range(one.things)])
    if word == "merge":
        sums = [sum(toll for toll, name in zip(tops, deed[1]) if name == k) for k in range(deed[2])]
        return merged(family, deed[1], deed[2]), Row(sums)
    return ~family, tolls


class NewDeskTest(Case):
    """Desks without deeds."""

    def test_new(self):
        desk = Desk(votes(2, 3))
        self.assertEqual(facts(desk), (votes(2, 3), Row([1, 1, 1]), ()))
        self.assertEqual((len(desk), list(desk)), (0, []))
        self.assertIs(type(desk.tolls_now), Row)
        self.assert_same(desk.deeds, ())
        for tolls in ([2, 2, 3], (2, 2, 3), Row([2, 2, 3]), Row([4, 4, 6], 2)):
            desk = Desk(votes(2, 3), tolls=tolls)
            self.assertEqual(desk.tolls_now, Row([2, 2, 3]))
            self.assert_same(desk.price_now(), (7, 4))

    def test_tolls_are_copied(self):
        tolls = [2, 2, 3]
        desk = Desk(votes(2, 3), tolls=tolls)
        tolls[0] = 9
        self.assertEqual(desk.tolls_now, Row([2, 2, 3]))

    def test_wrong_tolls(self):
        for wrong in NOT_LISTS + [[], ()]:
            if wrong is not None:
                self.assert_error(BadRow(-1), Desk, ring(8), tolls=wrong)
        for wrong in [0, -1, True, None, "1", 0.5, (1, 2), (2, 1)]:
            self.assert_error(BadRow(1), Desk, ring(8), tolls=[1, wrong, -1])
            self.assert_error(BadRow(2), Desk, ring(8), tolls=(1, 1, wrong))
        self.assert_error(BadRow(1), Desk, ring(8), tolls=Row([2, 3], 2))
        self.assert_error(BadRow(2), Desk, ring(8), tolls=Row([1, 2, 0]))
        self.assert_error(BadRow(0), Desk, ring(8), tolls=Row([0, 3], 2))
        for size in (7, 9):
            self.assert_error(OtherSize(size), Desk, ring(8), tolls=[1] * size)
            self.assert_error(OtherSize(size), Desk, ring(8), tolls=Row([1] * size))

    def test_too_many(self):
        self.assert_error(TooMany(7), Desk, ring(8))
        self.assert_error(TooMany(7), Desk, ring(13), tolls=[1] * 13)
        self.assert_error(TooMany(12), Desk, Family(13, [(0, 1)]))
        self.assert_error(TooMany(12), Desk, useless_beside(seven_lines(), range(7), 60))
        desk = Desk(useless_beside(seven_lines(), range(5, 12), 12))
        self.assert_same(desk.strain_now(), (9, 7))


class DeedsTest(Case):
    """Point 141: each deed, with the family, the tolls, the price and the texts behind it."""

    def assert_like_new(self, desk):
        """Check that a desk tells what a new desk with its family and its tolls tells."""
        new = Desk(desk.family_now, tolls=desk.tolls_now)
        self.assertEqual(new.deeds, ())
        self.assert_same(desk.price_now(), new.price_now())
        self.assert_same(desk.price_now(), price(desk.family_now, desk.tolls_now))
        return new

    def test_random_deeds(self):
        rng = random.Random(3401)
        done, refused, back = {}, 0, 0
        for family in rich_families(3402, 25) + some_families(3403, 25):
            desk = Desk(family, tolls=[rng.randint(1, 4) for _ in range(family.things)])
            past = [(facts(desk), desk.price_now())]
            for _ in range(25):
                deed = random_deed(rng, desk.family_now.things, desk.family_now.lots)
                before = facts(desk)
                try:
                    found = do(desk, deed)
                except Trouble:
                    refused += 1
                    self.assertEqual(facts(desk), before)
                    self.assert_same(desk.price_now(), past[-1][1])
                    continue
                self.assert_same(found, desk.price_now())
                self.assert_like_new(desk)
                if deed[0] == "back":
                    past.pop()
                    back += 1
                    self.assertEqual((facts(desk), found), past[-1])
                else:
                    due = behind(before[0], before[1], deed)
                    self.assertEqual(facts(desk), (*due, before[2] + (deed_text(deed),)))
                    past.append((facts(desk), found))
                    done[deed[0]] = done.get(deed[0], 0) + 1
                self.assertTrue(desk.tolls_now.is_whole and min(desk.tolls_now.tops) > 0)
                self.assert_same(list(desk), list(desk.deeds))
                self.assertEqual(len(desk), len(desk.deeds))
            self.undo_all(desk, past)
        self.assertEqual(len(done), 8)
        self.assertTrue(min(done.values()) > 10 and refused > 100 and back > 30, (done, refused, back))

    def undo_all(self, desk, past):
        """Undo all deeds and check each state on the way."""
        while len(past) > 1:
            past.pop()
            self.assert_same(desk.back(), past[-1][1])
            self.assertEqual(facts(desk), past[-1][0])
        self.assert_error(NothingBack(), desk.back)
        self.assert_error(NothingBack(), desk.back)
        self.assertEqual(facts(desk), past[-1][0])

    def test_each_deed(self):
        family = Family(4, [(0, 1), (0, 2), (0, 3), (1, 2)])
        cases = [
            ("set_toll", (2, 5), family, (1, 2, 5, 4), "toll 2 5"),
            ("hold", (1,), Family(4, [(0,), (2,)]), (1, 2, 3, 4), "hold 1"),
            ("leave", (0,), Family(4, [(1, 2)]), (1, 2, 3, 4), "leave 0"),
            ("put_lot", ([3],), Family(4, [(0, 1), (0, 2), (3,), (1, 2)]), (1, 2, 3, 4), "put lot 3"),
            ("put_lot", ([3, 1],), Family(4, [(0, 1), (0, 2), (0, 3), (1, 2), (1, 3)]), (1, 2, 3, 4), "put lot 1 3"),
            ("drop_lot", ([3, 0],), Family(4, [(0, 1), (0, 2), (1, 2)]), (1, 2, 3, 4), "drop lot 0 3"),
            ("put", (3, votes(1, 2)), Family(5, [(0, 1), (0, 2), (0, 3), (0, 4), (1, 2)]), (1, 2, 3, 4, 4), "put 3 2"),
            ("put", (0, votes(2, 2)), Family(5, [(0, 1, 2), (0, 1, 3), (0, 1, 4), (2, 3)]), (1, 1, 2, 3, 4), "put 0 2"),
            ("merge", ((0, 1, 1, 2), 3), Family(3, [(0, 2), (1,)]), (1, 5, 4), "merge 0 1 1 2 of 3"),
            ("turn", (), Family(4, [(0, 1), (0, 2), (1, 2, 3)]), (1, 2, 3, 4), "turn"),
        ]
        for method, arguments, made, tolls, text in cases:
            desk = Desk(family, tolls=[1, 2, 3, 4])
            found = getattr(desk, method)(*arguments)
            self.assertEqual(facts(desk), (made, Row(tolls), (text,)))
            self.assert_same(found, price(made, tolls))
            self.assert_like_new(desk)
            self.assert_same(desk.back(), price(family, [1, 2, 3, 4]))
            self.assertEqual(facts(desk), (family, Row([1, 2, 3, 4]), ()))

    def test_deeds_that_change_nothing(self):
        desk = Desk(Family(4, [(0, 1), (0, 2)]), tolls=[3, 2, 1, 7])
        for method, arguments in (("set_toll", (3, 7)), ("hold", (3,)), ("leave", (3,)), ("put_lot", ([2, 0, 1],)),
                                  ("put_lot", ([0, 1],)), ("put", (3, S)), ("put", (0, S)),
                                  ("merge", ([0, 1, 2, 3], 4))):
            before = facts(desk)
            found = getattr(desk, method)(*arguments)
            self.assertEqual(facts(desk)[:2], before[:2])
            self.assertEqual(len(desk), len(before[2]) + 1)
            self.assert_same(found, desk.price_now())
        self.assertEqual(desk.deeds, ("toll 3 7", "hold 3", "leave 3", "put lot 0 1 2", "put lot 0 1", "put 3 1",
                                      "put 0 1", "merge 0 1 2 3 of 4"))
        self.assertEqual(list(desk), list(desk.deeds))
        for _ in range(8):
            desk.back()
        self.assertEqual(len(desk), 0)

    def test_lists_handed_in(self):
        desk = Desk(ring(4))
        lot, names = [2, 0], [1, 0, 1, 1]
        desk.put_lot(lot)
        lot.append(1)
        self.assertIn((0, 2), desk.family_now)
        lot = [3, 2]
        desk.drop_lot(lot)
        desk.merge(names, 2)
        names[0] = 0
        self.assertEqual((lot, desk.deeds), ([3, 2], ("put lot 0 2", "drop lot 2 3", "merge 1 0 1 1 of 2")))
        self.assertEqual(desk.tolls_now, Row([1, 3]))
        other = Desk(ring(4))
        other.put_lot((2, 0))
        other.drop_lot((3, 2))
        other.merge((1, 0, 1, 1), 2)
        self.assertEqual(facts(other), facts(desk))

    def test_tolls_can_not_be_assigned(self):
        desk = Desk(votes(2, 3), tolls=[1, 2, 3])
        desk.hold(0)
        before = facts(desk)
        for value in (Row([1, 1, 1]), [1, 1, 1], None, desk.tolls_now):
            with self.assertRaises(BadDeed) as caught:
                desk.tolls_now = value
            self.assertEqual(caught.exception.word, "tolls_now")
            self.assertEqual(facts(desk), before)

    def test_back_and_on(self):
        desk = Desk(votes(2, 3))
        desk.hold(0)
        desk.back()
        desk.turn()
        desk.set_toll(1, 4)
        desk.back()
        desk.leave(2)
        self.assertEqual(desk.deeds, ("turn", "leave 2"))
        desk.back()
        desk.back()
        self.assertEqual(facts(desk), (votes(2, 3), Row([1, 1, 1]), ()))

    def test_iterated_over(self):
        desk = Desk(votes(2, 3), tolls=[1, 2, 3])
        self.assertEqual([list(desk), tuple(desk), sorted(desk)], [[], (), []])
        desk.hold(0)
        desk.set_toll(1, 7)
        texts = ["hold 0", "toll 1 7"]
        # over and over again, and two at a time
        self.assertEqual([list(desk), list(desk), [text for text in desk]], [texts, texts, texts])
        self.assertEqual(list(zip(desk, desk)), [("hold 0", "hold 0"), ("toll 1 7", "toll 1 7")])
        self.assertEqual(list(enumerate(desk)), [(0, "hold 0"), (1, "toll 1 7")])
        self.assertEqual(["hold 0" in desk, "hold 1" in desk, " / ".join(desk)], [True, False, "hold 0 / toll 1 7"])
        first, second = desk
        self.assertEqual([first, second], texts)
        self.assertEqual([list(desk.family_now), list(desk.tolls_now)], [[(1,), (2,)], [(1, 1), (7, 1), (3, 1)]])
        desk.back()
        self.assertEqual([list(desk), len(desk)], [["hold 0"], 1])
        self.assertEqual([list(desk.family_now), list(desk.tolls_now)], [[(1,), (2,)], [(1, 1), (2, 1), (3, 1)]])
        desk.back()
        self.assertEqual([list(desk), len(desk)], [[], 0])
        lots = [(0, 1), (0, 2), (1, 2)]
        self.assertEqual([list(desk.family_now), list(desk.tolls_now)], [lots, [(1, 1), (2, 1), (3, 1)]])
        desk.turn()
        self.assertEqual([list(desk), list(desk.family_now)], [["turn"], lots])
        with self.assertRaises(BadThing):
            desk.hold(3)
        self.assertEqual(list(desk), ["turn"])

    def test_two_hundred_deeds(self):
        rng = random.Random(3404)
        desk = Desk(useless_beside(votes(4, 7), range(2, 9), 12))
        past = [facts(desk)]
        while len(desk) < 200:
            thing = rng.randrange(12)
            word = rng.choice(["toll", "toll", "turn", "put lot"])
            try:
                do(desk, (word, thing, rng.randint(1, 10 ** 40 - 1)) if word == "toll" else (word,) if word == "turn"
                   else (word, rng.sample(range(2, 9), 4)))
            except Trouble:
                continue
            past.append(facts(desk))
        self.assertEqual(len(list(desk)), 200)
        while len(past) > 1:
            past.pop()
            desk.back()
            self.assertEqual(facts(desk), past[-1])


class RefusedTest(Case):
    """Each deed that is refused, with its error; the desk stays as it was."""

    def refused(self, desk, expected, method, *arguments):
        """Check that a deed is refused and changes nothing."""
        before = facts(desk)
        self.assert_error(expected, getattr(desk, method), *arguments)
        self.assertEqual(facts(desk), before)

    def test_tolls_and_things(self):
        desk = Desk(Family(4, [(0, 1), (0, 2)]), tolls=[3, 2, 1, 7])
        desk.set_toll(0, 5)
        for wrong in NOT_NUMBERS + [-1, 4, 10 ** 40, (0,)]:
            self.refused(desk, BadThing(wrong), "set_toll", wrong, 0)
            self.refused(desk, BadThing(wrong), "hold", wrong)
            self.refused(desk, BadThing(wrong), "leave", wrong)
            self.refused(desk, BadThing(wrong), "put", wrong, None)
        for wrong in NOT_NUMBERS + [0, -1, (2, 1)]:
            self.refused(desk, BadNumber("toll"), "set_toll", 0, wrong)
        self.refused(desk, Lost(0, "left"), "leave", 0)
        held = Desk(Family(3, [(0,), (1, 2)]))
        self.refused(held, Lost(0, "held"), "hold", 0)
        both = Desk(Family(3, [(1,)]))
        self.refused(both, Lost(1, "held"), "hold", 1)
        self.refused(both, Lost(1, "left"), "leave", 1)

    def test_lots(self):
        desk = Desk(Family(4, [(0, 1), (0, 2)]))
        for wrong in NOT_LISTS:
            self.refused(desk, BadSet(-1), "put_lot", wrong)
        for wrong in [-1, 4, True, None, "0", 0.0, (0,), 0]:
            self.refused(desk, BadSet(1), "put_lot", [0, wrong, -1])
        self.refused(desk, EmptyLot(0), "put_lot", [])
        self.refused(desk, EmptyLot(0), "put_lot", ())
        for wrong in NOT_LISTS + [[], [0], (0, 1, 2), [1, 2], [0, 1, 1], [0, None], [[0, 1]], ["0", "1"], [0, 3], [4],
                                  [-1, 0]]:
            self.refused(desk, BadLots(0), "drop_lot", wrong)
        desk.drop_lot([2, 0])
        self.refused(desk, NoLots(), "drop_lot", [0, 1])
        self.refused(desk, NoLots(), "drop_lot", (1, 0))
        self.refused(desk, BadLots(0), "drop_lot", (2, 0))

    def test_put(self):
        desk = Desk(ring(5))
        for wrong in (None, 5, [S], (S,), "ring", Family, Row([1])):
            self.refused(desk, BadFamily(0), "put", 0, wrong)
        self.refused(desk, TooMany(7), "put", 0, votes(2, 4))
        desk.put(0, votes(2, 3))
        self.refused(desk, TooMany(7), "put", 1, votes(2, 2))
        self.refused(desk, TooMany(7), "put", 1, Family(60, [(0, 1)]))
        self.refused(desk, TooMany(12), "put", 1, Family(60, [(59,)]))
        self.refused(desk, TooMany(12), "put", 1, Family(7, [(3,)]))
        desk.put(1, Family(6, [(3,)]))
        self.assertEqual((desk.family_now.things, len(desk.family_now.useful)), (12, 7))
        # a useless thing takes any family that has room: its things are all useless
        useless = [e for e in range(12) if e not in desk.family_now.useful][0]
        self.refused(desk, TooMany(12), "put", useless, votes(2, 2))
        self.refused(desk, TooMany(12), "put", useless, votes(2, 60))
        self.assertEqual(desk.put(useless, S), desk.price_now())
        wide = Desk(Family(4, [(0, 1)]))
        wide.put(2, votes(4, 9))
        self.assertEqual((wide.family_now.lots, wide.family_now.things), (((0, 1),), 12))

    def test_seven_ahead_of_twelve(self):
        desk = Desk(useless_beside(seven_lines(), range(7), 12))
        self.refused(desk, TooMany(7), "put", 0, votes(2, 2))
        self.refused(desk, TooMany(7), "put", 0, votes(2, 60))
        self.refused(desk, TooMany(12), "put", 7, votes(2, 2))
        self.refused(desk, TooMany(7), "put_lot", [0, 7])
        self.refused(desk, TooMany(7), "put_lot", [11])

    def test_lots_that_bring_things(self):
        desk = Desk(useless_beside(ring(6), range(6), 8))
        desk.put_lot([6, 0])
        self.refused(desk, TooMany(7), "put_lot", [7, 0])
        # a lot that holds another one brings nothing
        desk.put_lot([7, 0, 1])
        self.assertEqual(len(desk.family_now.useful), 7)
        # a lot that takes the place of others may make room
        desk.put_lot([6])
        self.assertEqual(len(desk.family_now.useful), 7)

    def test_merge(self):
        desk = Desk(Family(4, [(0, 1), (0, 2)]), tolls=[3, 2, 1, 7])
        for wrong in NOT_NUMBERS + [0, -1, 61]:
            self.refused(desk, BadNumber("size"), "merge", None, wrong)
        for wrong in NOT_LISTS + [[], [0, 0, 0], [0] * 5]:
            self.refused(desk, BadNames(-1), "merge", wrong, 2)
        for wrong in [-1, 2, True, None, "0", 0.0]:
            self.refused(desk, BadNames(1), "merge", [0, wrong, -1, 0], 2)
        self.refused(desk, BadNames(-1), "merge", [0, 0, 0, 0], 2)
        self.refused(desk, BadNames(-1), "merge", [0, 1, 3, 3], 4)
        self.refused(desk, BadNames(-1), "merge", [0, 1, 2, 3], 60)
        self.refused(desk, BadNames(3), "merge", [0, 1, 3, 9], 4)
        # all names are one
        self.assert_same(desk.merge([0, 0, 0, 0], 1), (13, 1))
        self.assertEqual(facts(desk)[:2], (S, Row([13])))

    def test_nothing_back(self):
        desk = Desk(ring(3))
        self.refused(desk, NothingBack(), "back")
        desk.turn()
        desk.back()
        self.refused(desk, NothingBack(), "back")


class ChangesTest(Case):
    """Point 143."""

    def test_parts_and_merged(self):
        rng = random.Random(3405)
        for family in rich_families(3406, 40) + some_families(3407, 30):
            tolls = [rng.randint(1, 5) for _ in range(family.things)]
            size = rng.randint(1, family.things)
            names = list(range(size)) + [rng.randrange(size) for _ in range(family.things - size)]
            for deed in [(word, e) for word in ("hold", "leave") for e in range(family.things)] + [
                    ("merge", names, size)]:
                desk = Desk(family, tolls=tolls)
                before = (fraction(desk.price_now()), fraction(desk.contacts_now()), fraction(desk.strain_now()))
                ones = fraction(contacts(family))
                try:
                    found = fraction(do(desk, deed))
                except Lost:
                    continue
                self.assertGreaterEqual(found, before[0])
                if deed[0] == "merge":
                    self.assertLessEqual(fraction(contacts(desk.family_now)), ones)
                elif deed[1] in family.useful:
                    self.assertLessEqual(fraction(desk.contacts_now()), before[1] - tolls[deed[1]])
                    self.assertLessEqual(fraction(contacts(desk.family_now)), ones - 1)
                    self.assertLessEqual(fraction(desk.strain_now()), before[2])

    def test_turn_and_tolls(self):
        rng = random.Random(3408)
        for family in rich_families(3409, 40):
            tolls = [rng.randint(1, 5) for _ in range(family.things)]
            desk = Desk(family, tolls=tolls)
            told = (desk.price_now(), desk.strain_now(), desk.contacts_now())
            desk.turn()
            self.assertEqual((desk.price_now(), desk.strain_now(), desk.contacts_now()), told)
            thing, t = rng.randrange(family.things), rng.randint(1, 3)
            desk = Desk(family, tolls=tolls)
            found = fraction(desk.set_toll(thing, tolls[thing] + t))
            self.assertLessEqual(found, fraction(told[0]) + t * fraction(rise(family, tolls, thing)))
            if tolls[thing] > t:
                found = fraction(desk.set_toll(thing, tolls[thing] - t))
                most = fraction(greatest_rise(family, tolls, thing))
                self.assertLessEqual(found, fraction(told[0]) - t * most)

    def test_put_in(self):
        rng = random.Random(3410)
        for family in rich_families(3411, 40, 3, 5):
            tolls = [rng.randint(1, 5) for _ in range(family.things)]
            inner = rng.choice([ring(3), votes(2, 2), votes(1, 3), fan(3), S])
            thing = rng.randrange(family.things)
            g, k = fraction(strain(inner)), fraction(contacts(inner))
            desk = Desk(family, tolls=tolls)
            before = fraction(desk.strain_now())
            found = desk.put(thing, inner)
            row = [Fraction(toll) for toll in tolls]
            lower = Row.of_amounts([(value / g if e == thing else value).as_integer_ratio()
                                    for e, value in enumerate(row)])
            self.assert_same(found, price(family, lower))
            higher = Row.of_amounts([(value * k if e == thing else value).as_integer_ratio()
                                     for e, value in enumerate(row)])
            self.assert_same(desk.contacts_now(), contacts(family, higher))
            self.assertLessEqual(fraction(desk.strain_now()), before * g)
            if g == 1:
                self.assertEqual(found, price(family, tolls))


class TellsTest(Case):
    """Point 144."""

    def test_what_a_desk_tells(self):
        rng = random.Random(3412)
        for family in rich_families(3413, 40) + some_families(3414, 30) + [seven_lines(), votes(4, 7)]:
            tolls = [rng.randint(1, 5) for _ in range(family.things)]
            desk = Desk(family, tolls=tolls)
            self.assert_same(desk.price_now(), price(family, tolls))
            self.assert_same(desk.strain_now(), strain(family))
            self.assert_same(desk.contacts_now(), contacts(family, tolls))
            pair = desk.pair_now()
            self.assertIs(type(pair), tuple)
            self.assertEqual(pair, best_pair(family, tolls))
            self.assertEqual(desk.play_now(), Play.worst(family))
            self.assertEqual(desk.play_now().mean(), desk.strain_now())
            total = sum(tolls[e] * tolls[e] for e in family.useful)
            self.assertLessEqual(fraction(desk.price_now()) * fraction(desk.contacts_now()), total)
            ones = Desk(family)
            self.assertEqual(fraction(ones.strain_now()) * fraction(ones.price_now()), 1)
            self.assertEqual(facts(desk), (family, Row(tolls), ()))

    def test_great_tolls(self):
        desk = Desk(seven_lines(), tolls=[10 ** 40 - 1 - e * e for e in range(7)])
        self.assertEqual(desk.price_now(), price(seven_lines(), desk.tolls_now))
        self.assertEqual(desk.contacts_now(), contacts(seven_lines(), desk.tolls_now))


if __name__ == "__main__":
    unittest.main()
