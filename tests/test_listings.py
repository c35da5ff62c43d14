"""Point 146: listings."""

import random
import unittest

from shortbynarrow.desks import Desk
from shortbynarrow.errors import Trouble
from shortbynarrow.families import Family
from shortbynarrow.listings import listing
from shortbynarrow.shapes import fan, ring, votes
from tests.brute import rich_families
from tests.cases import Case
from tests.test_desks import do, facts, random_deed


def amount_text(value):
    """Return the text of an amount."""
    return f"{value[0]}" if value[1] == 1 else f"{value[0]}/{value[1]}"


class ListingTest(Case):
    """The lines."""

    def test_example(self):
        desk = Desk(votes(2, 3))
        desk.set_toll(2, 5)
        desk.hold(0)
        self.assertEqual(
            listing(desk),
            "lot 1\nlot 2\ntolls 1 1 5\nprice 1\nstrain 1\ncontacts 6\n1. toll 2 5\n2. hold 0\n")

    def test_no_deeds(self):
        self.assertEqual(listing(Desk(Family.single(), tolls=[7])),
                         "lot 0\ntolls 7\nprice 7\nstrain 1\ncontacts 7\n")
        self.assertEqual(listing(Desk(fan(4))),
                         "lot 0 1\nlot 0 2\nlot 0 3\nlot 1 2 3\ntolls 1 1 1 1\nprice 7/9\nstrain 9/7\ncontacts 9/2\n")

    def test_every_deed(self):
        desk = Desk(ring(3), tolls=[2, 3, 4])
        desk.put(0, votes(2, 2))
        desk.turn()
        desk.put_lot([3, 0, 1])
        desk.drop_lot([0, 2] if (0, 2) in desk.family_now else desk.family_now.lots[0])
        desk.merge([0, 0, 1, 1], 2)
        desk.back()
        desk.leave(0)
        lines = listing(desk).split("\n")
        self.assertEqual(lines[-1], "")
        deeds = [line for line in lines if ". " in line]
        self.assertEqual(deeds, [f"{k + 1}. {text}" for k, text in enumerate(desk.deeds)])
        self.assertEqual(len(deeds), 5)

    def test_random_desks(self):
        rng = random.Random(3601)
        for family in rich_families(3602, 40):
            desk = Desk(family, tolls=[rng.randint(1, 5) for _ in range(family.things)])
            for _ in range(14):
                try:
                    do(desk, random_deed(rng, desk.family_now.things))
                except Trouble:
                    pass
            before = facts(desk)
            due = ["lot " + " ".join(map(str, lot)) for lot in desk.family_now.lots]
            due.append("tolls " + " ".join(map(str, desk.tolls_now.tops)))
            due.append("price " + amount_text(desk.price_now()))
            due.append("strain " + amount_text(desk.strain_now()))
            due.append("contacts " + amount_text(desk.contacts_now()))
            due.extend(f"{k + 1}. {text}" for k, text in enumerate(desk))
            self.assert_same(listing(desk), "\n".join(due) + "\n")
            self.assertEqual(facts(desk), before)

    def test_more_than_nine_deeds(self):
        desk = Desk(ring(3))
        for k in range(200):
            desk.set_toll(k % 3, k + 1)
        lines = listing(desk).split("\n")
        self.assertEqual(lines[-2], "200. toll 1 200")
        self.assertEqual(lines[3:4], ["tolls 199 200 198"])


if __name__ == "__main__":
    unittest.main()
