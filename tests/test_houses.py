"""Tests of [13]: houses."""

import copy
import unittest

from countsfall.errors import NoName, Wrong
from countsfall.forms import is_case, is_formula, is_house
from countsfall.houses import (
    cells_of, is_firm, is_open, names_of, part_of, renamed_case, renamed_formula, renamed_house, sort_of)
from countsfall.tables import fits, value_of
from tests.samples import ALL_OPEN, EMPTY, FIRM, HOUSES, LOOSE, MIXED, OPEN, PAIR, formulas_of, tables_with

HOUSE = (("a", 1, 1), ("b", 0, 2), ("c", 2, None), ("d", 1, 1), ("e", 3, 3))


class HousesTest(unittest.TestCase):

    def test_names(self):
        self.assertEqual(names_of(HOUSE), ("a", "b", "c", "d", "e"))
        self.assertEqual(names_of(EMPTY), ("a",))

    def test_sorts(self):
        for sort in HOUSE:
            self.assertEqual(sort_of(HOUSE, sort[0]), sort)

    def test_no_name_with_any_value(self):
        names = ["f", "", "A", None, True, 0, 1, (), ("a",), ["a"], {}, {"a": 1}, [[]], Wrong("a"), str, ("a", 1, 1)]
        for name in names:
            with self.assertRaises(NoName) as caught:
                sort_of(HOUSE, name)
            self.assertIs(caught.exception.name, name)

    def test_open_and_firm(self):
        self.assertEqual([is_open(house) for house in (PAIR, MIXED, OPEN, ALL_OPEN, EMPTY)], [False, False, True, True, False])
        self.assertEqual([is_firm(house) for house in (PAIR, MIXED, FIRM, OPEN, EMPTY)], [True, False, True, False, True])
        self.assertIs(is_open(HOUSE), True)
        self.assertIs(is_firm(HOUSE), False)
        self.assertIs(is_firm((("a", 0, None),)), False)
        self.assertIs(is_open((("a", 0, 0), ("b", 3, None))), True)
        self.assertIs(is_firm((("a", 1, 2), ("b", 2, 2))), False)

    def test_cells(self):
        self.assertEqual(cells_of(HOUSE), ("a", "d"))
        self.assertEqual([cells_of(PAIR), cells_of(LOOSE), cells_of(EMPTY)], [("a", "b"), (), ()])
        self.assertEqual(cells_of((("a", 1, None), ("b", 0, 1), ("c", 1, 2), ("d", 1, 1))), ("d",))

    def test_parts(self):
        self.assertEqual(part_of(HOUSE, ("b", "e")), (("b", 0, 2), ("e", 3, 3)))
        self.assertEqual(part_of(HOUSE, ("c",)), (("c", 2, None),))
        self.assertEqual(part_of(HOUSE, names_of(HOUSE)), HOUSE)


class RenamedTest(unittest.TestCase):

    def test_new_names_change_the_order_of_sorts(self):
        names = {"a": "z", "b": "y", "c": "m", "d": "b", "e": "rank"}
        expected = (("b", 1, 1), ("m", 2, None), ("rank", 3, 3), ("y", 0, 2), ("z", 1, 1))
        self.assertEqual(renamed_house(HOUSE, names), expected)

    def test_new_names_may_be_old_ones(self):
        names = {"a": "b", "b": "a"}
        self.assertEqual(renamed_house(MIXED, names), (("a", 0, 2), ("b", 1, 1)))
        self.assertEqual(renamed_formula(("rank", ("a",), 3), names), ("rank", ("b",), 3))

    def test_lots_ascend_and_formulas_keep_their_order(self):
        names = {"a": "z", "b": "y", "c": "x"}
        formula = ("kth", 2, (("rank", ("b", "c"), 1), ("kth", 1, (("rank", ("a", "b", "c"), 4),)), ("rank", ("a",), 2)))
        expected = ("kth", 2, (("rank", ("x", "y"), 1), ("kth", 1, (("rank", ("x", "y", "z"), 4),)), ("rank", ("z",), 2)))
        self.assertEqual(renamed_formula(formula, names), expected)

    def test_facts_and_answers_keep_their_order(self):
        one, other = ("rank", ("a",), 1), ("rank", ("a", "b"), 1)
        answers = (("is", other, 5), ("count", ("a", "b"), -2, 1), ("is", one, None), ("count", ("b",), 3, 0))
        renamed = renamed_case((MIXED, ((other, one), (one, other)), answers), {"a": "n", "b": "m"})
        new_one, new_other = ("rank", ("n",), 1), ("rank", ("m", "n"), 1)
        self.assertEqual(renamed, (
            (("m", 0, 2), ("n", 1, 1)), ((new_other, new_one), (new_one, new_other)),
            (("is", new_other, 5), ("count", ("m", "n"), -2, 1), ("is", new_one, None), ("count", ("m",), 3, 0))))

    def test_they_say_the_same(self):
        for house in HOUSES:
            old = names_of(house)
            names = {name: "zyx"[place] for place, name in enumerate(old)}
            new_house = renamed_house(house, names)
            self.assertTrue(is_house(new_house))
            formulas = formulas_of(house)[::5]
            for table in tables_with(house, (1, 2), 1)[:20]:
                new_table = {names[name]: table[name] for name in old}
                for formula in formulas:
                    new = renamed_formula(formula, names)
                    self.assertTrue(is_formula(new_house, new))
                    self.assertEqual(value_of(new_house, new_table, new), value_of(house, table, formula))
                    case = (house, ((formula, formulas[0]),), (("is", formula, 2), ("count", old, 2, 1)))
                    new_case = renamed_case(case, names)
                    self.assertTrue(is_case(new_case))
                    self.assertIs(fits(new_case, new_table), fits(case, table))

    def test_arguments_stay_as_they_are(self):
        names = {"b": "x", "a": "y"}
        before = copy.deepcopy(names)
        case = (MIXED, (), (("count", ("a", "b"), 1, 1),))
        self.assertEqual(renamed_case(case, names), renamed_case(case, names))
        renamed_house(MIXED, names)
        self.assertEqual(list(names.items()), list(before.items()))


if __name__ == "__main__":
    unittest.main()
