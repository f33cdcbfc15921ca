"""Tests of [20]: likeness."""

import unittest

from countsfall.errors import TooMany
from countsfall.forms import is_table
from countsfall.likeness import above_by, alike_lots, are_alike, is_never_above, never_above, parted_by
from countsfall.tables import value_of
from tests.samples import ALL_OPEN, EMPTY, FIRM, HELD, LOOSE, MIXED, OPEN, PAIR, formulas_of, tables_with

BEST, WORST = ("rank", ("a", "b"), 1), ("rank", ("a", "b"), 2)
A, B = ("rank", ("a",), 1), ("rank", ("b",), 1)
LOWEST = -10 ** 6


def values_in(house, tables, formula):
    """Return the values of a formula in some tables, a very low one for nothing."""
    values = [value_of(house, table, formula) for table in tables]
    return [LOWEST if value is None else value for value in values]


class TwoFormulasTest(unittest.TestCase):

    def check_table(self, house, table):
        self.assertIs(is_table(house, table), True)
        self.assertEqual(list(table), sorted(table))
        self.assertLessEqual({number for rows in table.values() for number in rows}, {1, 2})

    def test_against_all_tables(self):
        for house in (PAIR, MIXED, LOOSE, FIRM, HELD, OPEN, ALL_OPEN, EMPTY):
            tables = tables_with(house, (4, 7, 8) if len(house) < 2 or house[1][2] else (4, 7), 3)
            formulas = formulas_of(house)[::4] + formulas_of(house)[-6:]
            values = {formula: values_in(house, tables, formula) for formula in formulas}
            for one in formulas:
                for other in formulas:
                    self.check_pair(house, one, other, values[one], values[other])

    def check_pair(self, house, one, other, ones, others):
        alike = ones == others
        below = all(low <= high for low, high in zip(ones, others))
        self.assertIs(are_alike(house, one, other), alike)
        self.assertIs(is_never_above(house, one, other), below)
        parted, above = parted_by(house, one, other), above_by(house, one, other)
        self.assertEqual([parted is None, above is None], [alike, below])
        if parted is not None:
            self.check_table(house, parted)
            self.assertNotEqual(value_of(house, parted, one), value_of(house, parted, other))
        if above is not None:
            self.check_table(house, above)
            low, high = values_in(house, [above], other)[0], values_in(house, [above], one)[0]
            self.assertGreater(high, low)

    def test_both_ways_about(self):
        found = [is_never_above(PAIR, one, other) for one, other in ((A, BEST), (BEST, A), (A, WORST), (WORST, A), (A, B))]
        self.assertEqual(found, [True, False, False, True, False])
        self.assertIsNone(above_by(PAIR, A, BEST))
        self.assertIs(are_alike(PAIR, BEST, ("kth", 1, (A, B))), True)
        self.assertIs(are_alike(PAIR, WORST, ("kth", 2, (A, B))), True)
        self.assertIs(are_alike(PAIR, A, A), True)
        self.assertIs(are_alike(PAIR, ("rank", ("a",), 2), ("rank", ("b",), 3)), True)

    def test_tables_keep_what_the_house_lets(self):
        house = (("a", 3, 4), ("b", 2, None))
        for table in (parted_by(house, A, B), above_by(house, A, B), parted_by(house, ("rank", ("a",), 4), A)):
            self.check_table(house, table)

    def test_the_same_call_again(self):
        table = parted_by(PAIR, A, B)
        table.clear()
        self.check_table(PAIR, parted_by(PAIR, A, B))
        self.assertEqual(above_by(PAIR, A, B), above_by(PAIR, A, B))
        self.assertIsNot(above_by(PAIR, A, B), above_by(PAIR, A, B))


class ManyFormulasTest(unittest.TestCase):

    def test_against_pairs(self):
        for house in (PAIR, MIXED, OPEN, ALL_OPEN):
            formulas = tuple(formulas_of(house)[::3])
            pairs = never_above(house, formulas)
            places = range(len(formulas))
            expected = [(i, j) for i in places for j in places
                        if i != j and is_never_above(house, formulas[i], formulas[j])]
            self.assertEqual(pairs, expected)
            lots = alike_lots(house, formulas)
            self.assertEqual(lots, sorted(lots))
            self.assertEqual(sorted(place for lot in lots for place in lot), list(places))
            for lot in lots:
                alike = [place for place in places if are_alike(house, formulas[lot[0]], formulas[place])]
                self.assertEqual(list(lot), alike)

    def test_the_examples(self):
        self.assertEqual(never_above(PAIR, (BEST, WORST, A)), [(1, 0), (1, 2), (2, 0)])
        self.assertIs(is_never_above(PAIR, A, WORST), False)

    def test_no_formulas(self):
        self.assertEqual([alike_lots(PAIR, ()), never_above(PAIR, ())], [[], []])
        five = tuple((name, 0, None) for name in "abcde")
        self.assertEqual([alike_lots(five, ()), never_above(five, ())], [[], []])

    def test_one_formula_and_one_that_stands_twice(self):
        self.assertEqual([alike_lots(PAIR, (A,)), never_above(PAIR, (A,))], [[(0,)], []])
        self.assertEqual(alike_lots(PAIR, (B, A, B, A, ("kth", 1, (B, B)))), [(0, 2, 4), (1, 3)])
        self.assertEqual(never_above(PAIR, (A, B, A)), [(0, 2), (2, 0)])

    def test_lists_are_new(self):
        for call in (alike_lots, never_above):
            found = call(PAIR, (A, A))
            expected = list(found)
            found.clear()
            self.assertEqual(call(PAIR, (A, A)), expected)


class TooManyTest(unittest.TestCase):

    def check_too_many(self, call, *arguments):
        with self.assertRaises(TooMany) as caught:
            call(*arguments)
        self.assertEqual(caught.exception.most, 200)

    def test_by_all_formulas_together(self):
        house = (("a", 0, None), ("b", 0, None), ("c", 1, None))
        flat, deep = ("rank", ("a",), 4), ("rank", ("b",), 5)
        for call in (are_alike, parted_by, is_never_above, above_by):
            self.check_too_many(call, house, flat, deep)
            self.check_too_many(call, house, deep, flat)
            call(house, flat, flat)
        for call in (alike_lots, never_above):
            self.check_too_many(call, house, (flat, flat, deep))
            self.check_too_many(call, house, (deep,))
            call(house, (flat, flat))

    def test_just_200(self):
        house = (("a", 0, 9), ("b", 0, 9), ("c", 0, 1))
        one, other = ("rank", ("a",), 9), ("rank", ("b", "c"), 9)
        self.assertEqual([are_alike(house, one, other), is_never_above(house, one, other)], [False, False])
        self.assertEqual(never_above(house, (one, other)), [])
        self.assertEqual(alike_lots(house, (one, other)), [(0,), (1,)])
        self.check_too_many(are_alike, (("a", 0, 6), ("b", 0, 5), ("c", 0, 4)), ("rank", ("a",), 6), A)


if __name__ == "__main__":
    unittest.main()
