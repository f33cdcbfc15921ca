"""Tests of [21]: shapes."""

import unittest

from countsfall.errors import IsNothing, NotFirm, TooMany
from countsfall.forms import is_formula
from countsfall.shapes import (
    can_be_nothing, can_be_something, matters, settled_formula, turned_formula, turned_table)
from countsfall.tables import value_of
from countsfall.ways import ways_formula, ways_of
from tests.samples import (
    ALL_OPEN, EMPTY, FIRM, HELD, HOUSES, LOOSE, MIXED, OPEN, PAIR, formulas_of, tables_with)

BEST, WORST = ("rank", ("a", "b"), 1), ("rank", ("a", "b"), 2)
A, B = ("rank", ("a",), 1), ("rank", ("b",), 1)
FIRM_HOUSES = (PAIR, FIRM, EMPTY, (("a", 3, 3),), (("a", 0, 0), ("b", 2, 2)), (("a", 1, 1), ("b", 1, 1), ("c", 2, 2)))


class MattersTest(unittest.TestCase):

    def test_against_all_tables(self):
        for house in (PAIR, MIXED, LOOSE, FIRM, HELD, OPEN, EMPTY):
            names = [sort[0] for sort in house]
            tables = tables_with(house, (1, 2))
            for formula in formulas_of(house)[::2]:
                expected = []
                for name in names:
                    values = {}
                    for table in tables:
                        rest = tuple(table[other] for other in names if other != name)
                        values.setdefault(rest, set()).add(value_of(house, table, formula))
                    if any(len(told) > 1 for told in values.values()):
                        expected.append(name)
                self.assertEqual(matters(house, formula), tuple(expected))

    def test_sorts_that_only_stand_in_the_formula(self):
        self.assertEqual(matters(PAIR, ("kth", 1, (WORST, A))), ("a",))
        self.assertEqual(matters(PAIR, ("kth", 1, (A, ("rank", ("b",), 2)))), ("a",))
        self.assertEqual(matters((("a", 0, 0), ("b", 0, 1)), BEST), ("b",))
        self.assertEqual(matters(PAIR, BEST), ("a", "b"))

    def test_nothing_in_all_tables(self):
        self.assertEqual([matters(PAIR, ("rank", ("a", "b"), 3)), matters(EMPTY, A)], [(), ()])
        self.assertEqual(settled_formula(PAIR, ("rank", ("a",), 2)), ("rank", ("a", "b"), 3))


class SettledTest(unittest.TestCase):

    def test_told_form_of_the_ways(self):
        for house in HOUSES:
            for formula in formulas_of(house):
                settled = settled_formula(house, formula)
                self.assertEqual(settled, ways_formula(house, tuple(ways_of(house, formula))))
                self.assertEqual(settled_formula(house, settled), settled)
        self.assertEqual(settled_formula(PAIR, ("kth", 1, (WORST, A))), A)

    def test_it_has_the_same_value(self):
        for house in (PAIR, MIXED, OPEN):
            for formula in formulas_of(house)[::4]:
                settled = settled_formula(house, formula)
                for table in tables_with(house, (0, 3), 1):
                    self.assertEqual(value_of(house, table, settled), value_of(house, table, formula))

    def test_more_than_200_counts(self):
        just = (("a", 0, 9), ("b", 0, 9), ("c", 0, 1))
        self.assertEqual(matters(just, ("rank", ("a", "c"), 9)), ("a", "c"))
        self.assertEqual(settled_formula(just, ("rank", ("b",), 9)), ("rank", ("b",), 9))
        for call in (matters, settled_formula):
            for house, deep in (((("a", 0, 6), ("b", 0, 5), ("c", 0, 4)), 6), ((("a", 0, None), ("b", 0, None)), 14)):
                with self.assertRaises(TooMany) as caught:
                    call(house, ("rank", ("a",), deep))
                self.assertEqual(caught.exception.most, 200)


class NothingTest(unittest.TestCase):

    def test_against_all_tables(self):
        for house in HOUSES:
            tables = tables_with(house, (1,), 3)
            for formula in formulas_of(house, 3):
                values = [value_of(house, table, formula) for table in tables]
                self.assertIs(can_be_nothing(house, formula), None in values)
                self.assertIs(can_be_something(house, formula), any(value is not None for value in values))

    def test_beyond_200_counts(self):
        house = (("a", 0, None), ("b", 3, 9), ("c", 0, 9), ("d", 0, 9))
        deep = ("rank", ("a",), 9)
        self.assertEqual([can_be_nothing(house, deep), can_be_something(house, deep)], [True, True])
        low = ("rank", ("b", "c"), 3)
        self.assertEqual([can_be_nothing(house, low), can_be_something(house, low)], [False, True])
        never = ("kth", 2, (("rank", ("c", "d"), 19), deep))
        self.assertEqual([can_be_nothing(house, never), can_be_something(house, never)], [True, False])
        just = ("kth", 2, (("rank", ("c", "d"), 18), deep))
        self.assertEqual([can_be_nothing(house, just), can_be_something(house, just)], [True, True])
        self.assertIs(can_be_nothing(house, ("rank", ("b",), 4)), True)


class TurnedTest(unittest.TestCase):

    def test_tables(self):
        table = {"b": (-3, 0, 0, 10 ** 30), "a": (), "c": (5,)}
        turned = turned_table(table)
        self.assertEqual(turned, {"a": (), "b": (-10 ** 30, 0, 0, 3), "c": (-5,)})
        self.assertEqual(list(turned), ["a", "b", "c"])
        self.assertEqual(turned_table(turned), table)
        self.assertEqual(list(table), ["b", "a", "c"])
        turned.clear()
        self.assertEqual(turned_table({"a": (1, 2)}), {"a": (-2, -1)})

    def test_turned_formulas_in_turned_tables(self):
        for house in FIRM_HOUSES:
            tables = tables_with(house, (-1, 0, 2))
            for formula in formulas_of(house)[::2]:
                if can_be_something(house, formula):
                    turned = turned_formula(house, formula)
                    self.assertIs(is_formula(house, turned), True)
                    self.assertEqual(turned, ways_formula(house, tuple(ways_of(house, turned))))
                    for table in tables:
                        value = value_of(house, turned_table(table), turned)
                        self.assertEqual(value, 0 - value_of(house, table, formula))
                    self.assertEqual(turned_formula(house, turned), settled_formula(house, formula))

    def test_the_example(self):
        self.assertEqual(turned_formula(PAIR, BEST), settled_formula(PAIR, WORST))
        self.assertEqual(turned_formula((("a", 9, 9),), ("rank", ("a",), 1)), ("rank", ("a",), 9))

    def test_not_firm_then_too_many_then_nothing(self):
        never = ("rank", ("a",), 10 ** 6)
        for house, name in ((MIXED, "b"), (OPEN, "a"), (ALL_OPEN, "a"), ((("a", 9, 9), ("b", 9, 9), ("c", 9, 10)), "c"),
                            ((("a", 2, 2), ("b", 3, None), ("c", 0, 1)), "b")):
            for formula in (A, never):
                with self.assertRaises(NotFirm) as caught:
                    turned_formula(house, formula)
                self.assertEqual(caught.exception.name, name)
        for house in ((("a", 6, 6), ("b", 5, 5), ("c", 4, 4)), (("a", 200, 200),)):
            for formula in (A, never):
                with self.assertRaises(TooMany) as caught:
                    turned_formula(house, formula)
                self.assertEqual(caught.exception.most, 200)
        for house, formula in (((("a", 9, 9), ("b", 9, 9), ("c", 1, 1)), never), (EMPTY, A), (PAIR, ("rank", ("a",), 2))):
            with self.assertRaises(IsNothing):
                turned_formula(house, formula)

    def test_just_200_sizes(self):
        house = (("a", 9, 9), ("b", 9, 9), ("c", 1, 1))
        self.assertEqual(turned_formula(house, ("rank", ("b",), 9)), B)
        self.assertEqual(turned_formula((("a", 199, 199),), A), ("rank", ("a",), 199))


if __name__ == "__main__":
    unittest.main()
