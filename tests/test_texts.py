"""Point 11: texts of families."""

import unittest

from shortbynarrow.errors import BadNumber, BadSet, BadText, NoLots
from shortbynarrow.families import Family
from shortbynarrow.texts import family_from, family_text
from tests.brute import some_families
from tests.cases import Case


class TextsTest(Case):
    """Writing and reading."""

    def test_written(self):
        self.assertEqual(family_text(Family(4, [[3, 1], [0, 2, 1]])), "things 4\n0 1 2\n1 3\n")
        self.assertEqual(family_text(Family(60, [[59]])), "things 60\n59\n")

    def test_read_back(self):
        for family in some_families(41, 100, most_things=12):
            self.assertEqual(family_from(family_text(family)), family)

    def test_any_order(self):
        self.assertEqual(family_from("things 4\n3 1\n0 3 1\n2 0\n0 2\n"), Family(4, [[1, 3], [0, 2]]))
        self.assertEqual(family_from("things 1\n0\n"), Family.single())

    def test_great_text(self):
        lots = [[k, 20 + j] for k in range(20) for j in range(10)]
        family = Family(60, lots)
        self.assertEqual(family_from(family_text(family)), family)

    def test_wrong_texts(self):
        cases = [
            (None, 1, "head", None), (b"things 1\n0\n", 1, "head", None), (["things 1"], 1, "head", None),
            ("", 1, "head", None), ("\n", 1, "head", None), ("things\n0\n", 1, "head", None),
            ("things 1 \n0\n", 1, "head", None), ("things  1\n0\n", 1, "head", None),
            (" things 1\n0\n", 1, "head", None), ("thing 1\n0\n", 1, "head", None),
            ("Things 1\n0\n", 1, "head", None), ("things 1 1\n0\n", 1, "head", None),
            ("\nthings 1\n0\n", 1, "head", None), ("things\t1\n0\n", 1, "head", None),
            ("things x", 1, "number", None), ("things \n0\n", 1, "number", None),
            ("things 01\n0\n", 1, "number", None), ("things 00\n0\n", 1, "number", None),
            ("things +1\n0\n", 1, "number", None), ("things 1.\n0\n", 1, "number", None),
            ("things 1\r\n0\r\n", 1, "number", None), ("things \u0661\n0\n", 1, "number", None),
            ("things 1234567890\n0\n", 1, "number", None), ("things -1\n0\n", 1, "number", None),
            ("things 0\n0\n", 1, "number", BadNumber("things")),
            ("things 61\n0\n", 1, "number", BadNumber("things")),
            ("things 999999999\nx", 1, "number", BadNumber("things")),
            ("things 3\n\n", 2, "number", None), ("things 3\n0 1\n\n2\n", 3, "number", None),
            ("things 3\n0  1\n", 2, "number", None), ("things 3\n0 1 \n", 2, "number", None),
            ("things 3\n 0\n", 2, "number", None), ("things 3\n0,1\n", 2, "number", None),
            ("things 3\n0 00\n", 2, "number", None), ("things 3\n0\n1 -1\n", 3, "number", None),
            ("things 3\n7 x\n", 2, "number", None), ("things 3\n0 \u0662\n", 2, "number", None),
            ("things 3\n1000000000\n", 2, "number", None), ("things 3\n0 1\n2 02", 3, "number", None),
            ("things 3\n0 1\n1 3\n", 3, "lot", BadSet(1)), ("things 3\n2 1 2\n", 2, "lot", BadSet(2)),
            ("things 3\n3", 2, "lot", BadSet(0)), ("things 3\n999999999\n", 2, "lot", BadSet(0)),
            ("things 3\n0 0\nx\n", 2, "lot", BadSet(1)), ("things 3\n0 1\n1 1 5", 3, "lot", BadSet(1)),
            ("things 3", 1, "lots", None), ("things 3\n0 1", 2, "lots", None),
            ("things 3\n0 1\n2", 3, "lots", None),
            ("things 3\n", 1, "lots", NoLots()),
        ]
        for text, line, word, cause in cases:
            with self.subTest(text=text):
                error = self.assert_error(BadText(line, word), family_from, text)
                if cause is None:
                    self.assertIsNone(error.__cause__)
                else:
                    self.assertIs(type(error.__cause__), type(cause))
                    self.assertEqual(vars(error.__cause__), vars(cause))


if __name__ == "__main__":
    unittest.main()
