"""Tests of [15]: what is shown."""

import copy
import unittest

from countsfall.texts import show_case, show_formula, show_house, show_table
from tests.samples import PAIR

BIG = 10 ** 30
RANK = ("rank", ("b", "open"), 2)
DEEP = ("kth", 1, (("rank", ("b",), 1), ("kth", 2, (RANK, RANK))))
HOUSE = (("b", 0, 2), ("open", 1, None), ("rank", 3, 3))


class ShowTest(unittest.TestCase):

    def test_houses(self):
        self.assertEqual(show_house(HOUSE), "sort b 0 2\nsort open 1 open\nsort rank 3 3")
        self.assertEqual(show_house((("a", 0, 0),)), "sort a 0 0")

    def test_tables(self):
        table = {"b": (-BIG, 0, 0), "c": (), "a": (BIG,)}
        before = copy.deepcopy(table)
        self.assertEqual(show_table(table), f"rows a {BIG}\nrows b -{BIG} 0 0\nrows c")
        self.assertEqual(list(table.items()), list(before.items()))
        self.assertEqual(show_table({"a": ()}), "rows a")

    def test_formulas(self):
        self.assertEqual(show_formula(("rank", ("a",), 1)), "( rank 1 a )")
        self.assertEqual(show_formula(RANK), "( rank 2 b open )")
        self.assertEqual(show_formula(DEEP), "( kth 1 ( rank 1 b ) ( kth 2 ( rank 2 b open ) ( rank 2 b open ) ) )")
        self.assertEqual(show_formula(("kth", 1, (RANK,))), "( kth 1 ( rank 2 b open ) )")

    def test_cases(self):
        one = ("rank", ("b",), 1)
        answers = (("is", one, 0), ("count", ("b", "rank"), -BIG, 2), ("is", DEEP, None), ("is", one, -7))
        expected = [
            "sort b 0 2", "sort open 1 open", "sort rank 3 3",
            "fact ( rank 1 b ) ( rank 2 b open )", "fact ( rank 2 b open ) ( rank 1 b )",
            "is ( rank 1 b ) 0", f"count -{BIG} 2 b rank",
            "is ( kth 1 ( rank 1 b ) ( kth 2 ( rank 2 b open ) ( rank 2 b open ) ) ) nothing", "is ( rank 1 b ) -7"]
        self.assertEqual(show_case((HOUSE, ((one, RANK), (RANK, one)), answers)), "\n".join(expected))
        self.assertEqual(show_case((PAIR, (), ())), "sort a 1 1\nsort b 1 1")


if __name__ == "__main__":
    unittest.main()
