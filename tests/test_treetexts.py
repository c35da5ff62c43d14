"""Points 119 and 120: texts of trees."""

import unittest

from shortbynarrow.errors import BadText, BadTree
from shortbynarrow.trees import Leaf, Vote
from shortbynarrow.treetexts import tree_from, tree_text
from tests.brute import any_trees, once_trees
from tests.cases import Case

FIRST = "1(" * 30
LAST = ")" * 30


class TextsTest(Case):
    """Texts that are right."""

    def test_example(self):
        tree = tree_from("2(0 1 1(2 3))")
        self.assertEqual([tree_text(~tree), (~~tree) == tree, tree.branches[2].need], ["2(0 1 2(2 3))", True, 1])

    def test_written(self):
        self.assertEqual(tree_text(Leaf(0)), "0")
        self.assertEqual(tree_text(Leaf(59)), "59")
        self.assertEqual(tree_text(Vote(1, [Leaf(7)])), "1(7)")
        self.assertEqual(tree_text(Vote(2, [Leaf(7), Vote(3, [Leaf(0), Leaf(7), Leaf(10)])])), "2(7 3(0 7 10))")

    def test_read_back(self):
        for tree in any_trees(2501, 100) + once_trees(2502, 60):
            text = tree_text(tree)
            self.assertEqual(tree_from(text), tree)
            self.assertEqual(tree_text(tree_from(text)), text)
        for text in ("0", "59", "1(0)", "2(0 0)", "1(1(1(1(5))))", FIRST + "9" + LAST):
            self.assertEqual(tree_text(tree_from(text)), text)

    def test_kinds(self):
        self.assertIs(type(tree_from("5")), Leaf)
        self.assertIs(type(tree_from("1(5)")), Vote)

    def test_great_trees(self):
        sixty = Vote(60, [Leaf(k) for k in range(60)])
        self.assertEqual(tree_from(tree_text(sixty)), sixty)
        deep = Leaf(0)
        for k in range(1, 31):
            deep = Vote(1 + k % 2, [deep, Leaf(k)])
        self.assertEqual(tree_from(tree_text(deep)), deep)
        wide = tree_from("1(" * 29 + "30(" + " ".join(str(k) for k in range(60)) + ")" * 30)
        self.assertEqual((wide.depth(), len(wide.leaves())), (30, 60))


class WrongTextsTest(Case):
    """Each way in which a text can be wrong."""

    def assert_texts(self, word, texts, cause=None):
        """Check that each of the texts raises the BadText with the word and the cause."""
        for text in texts:
            fault = self.assert_error(BadText(1, word), tree_from, text)
            found = fault.__cause__
            if cause is None:
                self.assertIsNone(found)
            else:
                self.assertIs(type(found), BadTree)
                self.assertEqual(found.word, cause)

    def test_no_string(self):
        self.assert_texts("number", [None, 5, b"5", ["5"], ("1(0)",), Leaf(0), True])

    def test_number(self):
        self.assert_texts("number", [
            "", " ", " 5", "(", ")", "x", "-1", "+5", "00", "05", "01(0 1)", "1234567890", "0123456789",
            "1(", "1( 0)", "1()", "1(0 )", "1(0  1)", "1(0 x)", "1(0 (1))", "1(01)", "1(0 00)", "2(0 1(",
            "1(0 1234567890)", "\n", "\t5", "1((0))", "1(0 -1)", "\u0665", "1(\u0665)", "1" * 5000, "1(" * 5000,
            "1(0 " * 5000, "()", "1(0 1( ",
        ])

    def test_bracket(self):
        self.assert_texts("bracket", [
            "1(0", "2(0 1", "1(0,1)", "1(0\n1)", "1(0\t1)", "1(0x)", "1(0]", "1(1(0)", "1(1(0)(1))", "2(0 1;",
            "1(5.0)", "1(0 1(2)", "1(1(0)1)", "1(0\n)", f"1({FIRST}0{LAST}",
        ])

    def test_tree(self):
        self.assert_texts("tree", ["60", "999999999", "1(60)", "1(0 60", "60x", "60 1", "1(0 1(61 "], "name")
        self.assert_texts("tree", ["0(0)", "2(0)", "3(0 1)", "999999999(0)", "1(0 2(1))", "2(1)x", "2(1) 5"], "need")
        many = " ".join(["0"] * 61)
        self.assert_texts("tree", [f"1({many})", f"1({many})x", f"1(1({many[2:]}) 0)"], "leaves")
        self.assert_texts("tree", [f"1({FIRST}0{LAST})", f"1({FIRST}0{LAST})x", f"1(0 {FIRST}0{LAST})"], "depth")
        self.assert_texts("tree", ["1(" * 5000 + "0" + ")" * 5000], "depth")

    def test_made_at_once(self):
        # the first fault from the left is told
        self.assert_texts("tree", ["1(60x", "1(60"], "name")
        self.assert_texts("tree", ["1(2(0)x", "2(0)("], "need")
        # the need of a vote is looked at only when the vote is made
        self.assert_texts("bracket", ["0(0", "9(0x"])
        self.assert_texts("number", ["0(x", "9(0 "])
        self.assert_texts("number", ["1(" * 31 + "x"])

    def test_end(self):
        self.assert_texts("end", ["0 ", "0 1", "5)", "1(0))", "1(0) ", "1(0)\n", "1(0)1", "0x", "0\n", "59,", "1(0)("])
        self.assert_texts("number", ["5("])


if __name__ == "__main__":
    unittest.main()
