"""Point 142: deeds and their texts."""

import unittest

from shortbynarrow.deeds import deed_text
from shortbynarrow.errors import BadDeed
from shortbynarrow.families import Family
from shortbynarrow.shapes import ring, votes
from tests.cases import Case

GREAT = 10 ** 40 - 1


class DeedsTest(Case):
    """Texts, and values that have not the form."""

    def test_texts(self):
        cases = [
            (("toll", 2, 5), "toll 2 5"), (("hold", 1), "hold 1"), (("leave", 0), "leave 0"),
            (("put lot", [0, 2]), "put lot 0 2"), (("drop lot", (1, 3)), "drop lot 1 3"),
            (("put", 0, votes(2, 3)), "put 0 3"), (("put", 7, Family(60, [(0,)])), "put 7 60"),
            (("merge", [0, 0, 1], 2), "merge 0 0 1 of 2"), (("turn",), "turn"), (("back",), "back"),
        ]
        for deed, text in cases:
            self.assert_same(deed_text(deed), text)
            self.assert_same(deed_text(list(deed)), text)

    def test_any_integers(self):
        cases = [
            (("hold", -1), "hold -1"), (("leave", -20), "leave -20"), (("toll", -3, 0), "toll -3 0"),
            (("toll", GREAT, -GREAT), f"toll {GREAT} -{GREAT}"), (("put", -5, ring(4)), "put -5 4"),
            (("put lot", [5, -1, 5, 0]), "put lot -1 0 5 5"), (("drop lot", [3, 3, 3]), "drop lot 3 3 3"),
            (("put lot", [10, 9, 100]), "put lot 9 10 100"), (("merge", [2, -1, 2, 0], -4), "merge 2 -1 2 0 of -4"),
            (("put lot", [GREAT, -GREAT]), f"put lot -{GREAT} {GREAT}"),
        ]
        for deed, text in cases:
            self.assert_same(deed_text(deed), text)

    def test_nothing_at_all(self):
        for empty in ([], ()):
            self.assert_same(deed_text(("put lot", empty)), "put lot")
            self.assert_same(deed_text(("drop lot", empty)), "drop lot")
            self.assert_same(deed_text(("merge", empty, 2)), "merge of 2")

    def test_the_lists_stay_as_they_were(self):
        lot, names = [3, 1], [1, 0, 1]
        deed_text(["put lot", lot])
        deed_text(["merge", names, 2])
        self.assertEqual((lot, names), ([3, 1], [1, 0, 1]))

    def test_no_deeds(self):
        family = votes(2, 3)
        wrong = [
            None, 5, "turn", "toll 2 5", b"turn", {"turn": 1}, {"turn"}, (), [], (5,), (None,), ([],), (["turn"],),
            (("turn",),), ({},), ("",), ("Turn",), ("turn ",), ("toll",), ("toll", 1), ("toll", 1, 2, 3), ("hold",),
            ("hold", 1, 2), ("leave",), ("leave", 0, 0), ("putlot", [0]), ("put_lot", [0]), ("put lot",),
            ("put lot", 0), ("put lot", 0, 2), ("put lot", [0], [1]), ("drop lot", "01"), ("drop lot", {0: 1}),
            ("drop lot", {0}), ("put", 0), ("put", 0, 3), ("put", 0, [family]), ("put", 0, None), ("put", family, 0),
            ("put", 0, family, 1), ("merge", [0, 0]), ("merge", 2, [0, 0]), ("merge", [0, 0], 2, 2),
            ("merge", [0, None], 2), ("merge", [0, 0], None), ("turn", None), ("turn", ()), ("back", 1), ("undo",),
            ("toll", "1", 2), ("toll", 1, 2.0), ("toll", None, 1), ("toll", 1, None), ("toll", [1], 2),
            ("hold", None), ("hold", "0"), ("hold", (0,)), ("put lot", [0, "1"]), ("put lot", [0, None]),
            ("put lot", [[0]]), ("drop lot", [0.0]), ("put", "0", family), ("set_toll", 1, 2), family,
            ("toll", True, 2), ("toll", 1, True), ("hold", False), ("put lot", [True]), ("merge", [False], 1),
            ("merge", [0], True), ("put", False, family),
        ]
        for value in wrong:
            self.assert_error(BadDeed("deed"), deed_text, value)


if __name__ == "__main__":
    unittest.main()
