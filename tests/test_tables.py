"""Tests of [14] and of the values in [2]."""

import copy
import unittest

from countsfall.tables import (
    all_numbers, count_at_least, fits, is_right, keeps, relabelled, sizes_of, value_of)
from tests.samples import EMPTY, HOUSES, MIXED, formulas_of, tables_with

HOUSE = (("a", 1, 1), ("b", 0, 3), ("c", 0, None))
TABLE = {"c": (-5, 2, 2), "a": (2,), "b": (1, 7)}
LOOSE_TABLE = {"b": (3,), "a": (3, 3)}
BIG = 10 ** 29
A, B, C = ("rank", ("a",), 1), ("rank", ("b",), 1), ("rank", ("c",), 1)


def plain_value(table, formula):
    """Return the value of a formula by the words of the document; -1000 stands for nothing."""
    if formula[0] == "rank":
        values = [number for name in formula[1] for number in table[name]] + [-1000] * formula[2]
        return sorted(values, reverse=True)[formula[2] - 1]
    return sorted([plain_value(table, part) for part in formula[2]], reverse=True)[formula[1] - 1]


class ValuesTest(unittest.TestCase):

    def test_ranks_count_equal_numbers_as_often_as_they_occur(self):
        values = [value_of(HOUSE, TABLE, ("rank", ("a", "b", "c"), k)) for k in range(1, 9)]
        self.assertEqual(values, [7, 2, 2, 2, 1, -5, None, None])
        self.assertEqual([value_of(HOUSE, TABLE, ("rank", ("c",), k)) for k in (1, 2, 3, 4)], [2, 2, -5, None])

    def test_kth_formulas(self):
        def kth(*formulas):
            return [value_of(HOUSE, TABLE, ("kth", k, formulas)) for k in range(1, len(formulas) + 1)]
        self.assertEqual(kth(A, B, C), [7, 2, 2])
        self.assertEqual(kth(("rank", ("b",), 2), A), [2, 1])
        self.assertEqual(kth(B), [7])

    def test_nothing_is_less_than_all_integers(self):
        nothing = ("rank", ("b",), 3)
        low = ("rank", ("c",), 3)
        values = [value_of(HOUSE, TABLE, ("kth", k, (nothing, low, nothing))) for k in (1, 2, 3)]
        self.assertEqual(values, [-5, None, None])
        table = {"a": (-BIG,), "b": (), "c": ()}
        self.assertEqual([value_of(HOUSE, table, ("kth", k, (B, A))) for k in (1, 2)], [-BIG, None])

    def test_a_formula_that_stands_twice_counts_twice(self):
        self.assertEqual([value_of(HOUSE, TABLE, ("kth", k, (B, B, A))) for k in (1, 2, 3)], [7, 7, 2])

    def test_all_values_are_by_the_words(self):
        for house in HOUSES:
            formulas = formulas_of(house)
            for table in tables_with(house, (-1, 0, 1), 1):
                for formula in formulas:
                    expected = plain_value(table, formula)
                    self.assertEqual(value_of(house, table, formula), None if expected == -1000 else expected)

    def test_zero_is_not_nothing(self):
        table = {"a": (0,), "b": (), "c": (-1,)}
        self.assertEqual([value_of(HOUSE, table, formula) for formula in (A, B, C)], [0, None, -1])
        self.assertIs(is_right(HOUSE, table, ("is", A, None)), False)
        self.assertIs(is_right(HOUSE, table, ("is", B, 0)), False)

    def test_numbers_of_thirty_digits(self):
        table = {"a": (BIG * 9,), "b": (-BIG * 9, BIG * 9 - 1), "c": ()}
        values = [value_of(HOUSE, table, ("rank", ("a", "b"), k)) for k in (1, 2, 3, 4)]
        self.assertEqual(values, [BIG * 9, BIG * 9 - 1, -BIG * 9, None])


class CountsTest(unittest.TestCase):

    def test_count_at_least(self):
        counts = [count_at_least(HOUSE, TABLE, ("a", "b", "c"), number) for number in (-6, -5, -4, 1, 2, 3, 7, 8)]
        self.assertEqual(counts, [6, 6, 5, 5, 4, 1, 1, 0])
        self.assertEqual(count_at_least(HOUSE, TABLE, ("b",), 2), 1)
        self.assertEqual(count_at_least(HOUSE, {"a": (-BIG,), "b": (), "c": ()}, ("a",), -BIG), 1)

    def test_sizes_and_numbers(self):
        self.assertEqual([sizes_of(HOUSE, TABLE), all_numbers(TABLE)], [(1, 2, 3), [-5, 1, 2, 7]])
        self.assertEqual([sizes_of(EMPTY, {"a": ()}), all_numbers({"a": ()})], [(0,), []])
        self.assertEqual(all_numbers({"b": (-2, -1), "a": (-1, BIG)}), [-2, -1, BIG])

    def test_lists_are_new(self):
        numbers = all_numbers(TABLE)
        numbers.append(99)
        self.assertEqual(all_numbers(TABLE), [-5, 1, 2, 7])


class FitsTest(unittest.TestCase):

    def test_facts(self):
        nothing = ("rank", ("b",), 3)
        self.assertIs(keeps(HOUSE, TABLE, ()), True)
        kept = [(A, B), (A, A), (A, C), (C, A), (nothing, A), (nothing, nothing), (nothing, ("rank", ("c",), 3))]
        broken = [(B, A), (A, nothing), (("rank", ("c",), 3), nothing)]
        for fact in kept:
            self.assertIs(keeps(HOUSE, TABLE, (fact,)), True)
        for fact in broken:
            self.assertIs(keeps(HOUSE, TABLE, (fact,)), False)
            self.assertIs(keeps(HOUSE, TABLE, tuple(kept) + (fact,)), False)
        self.assertIs(keeps(HOUSE, TABLE, tuple(kept)), True)
        zero = {"a": (0,), "b": (), "c": ()}
        self.assertEqual([keeps(HOUSE, zero, ((A, B),)), keeps(HOUSE, zero, ((B, A),))], [False, True])

    def test_answers(self):
        right = [("is", A, 2), ("is", B, 7), ("is", ("rank", ("b",), 3), None), ("count", ("a", "c"), 2, 3)]
        right += [("count", ("b",), 8, 0), ("count", ("b",), 7, 1), ("count", ("c",), -5, 3)]
        wrong = [("is", A, 3), ("is", A, None), ("is", ("rank", ("b",), 3), 1), ("count", ("a", "c"), 2, 2)]
        wrong += [("count", ("a", "c"), 2, 4), ("count", ("b",), 8, 1)]
        for answer in right:
            self.assertIs(is_right(HOUSE, TABLE, answer), True)
        for answer in wrong:
            self.assertIs(is_right(HOUSE, TABLE, answer), False)
            self.assertIs(fits((HOUSE, (), tuple(right) + (answer,)), TABLE), False)
        self.assertIs(fits((HOUSE, (), tuple(right)), TABLE), True)

    def test_a_table_fits_by_facts_and_answers(self):
        self.assertIs(fits((HOUSE, (), ()), TABLE), True)
        self.assertIs(fits((HOUSE, ((A, B),), (("is", A, 2),)), TABLE), True)
        self.assertIs(fits((HOUSE, ((B, A),), (("is", A, 2),)), TABLE), False)
        self.assertIs(fits((HOUSE, ((A, B),), (("is", A, 1),)), TABLE), False)

    def test_the_example(self):
        case = (MIXED, (), (("is", ("rank", ("a", "b"), 1), 5), ("count", ("b",), 5, 1)))
        self.assertEqual([fits(case, {"a": (4,), "b": (3, 5)}), fits(case, {"a": (5,), "b": (5, 5)})], [True, False])
        house = (("a", 1, 1), ("b", 0, 2), ("c", 0, None))
        formula = ("kth", 1, (("rank", ("a",), 1), ("rank", ("b", "c"), 2)))
        self.assertEqual(value_of(house, {"c": (7,), "b": (3, 5), "a": (4,)}, formula), 5)


class RelabelledTest(unittest.TestCase):

    def test_labels(self):
        labels = {7: 100, -5: -BIG, 1: 0, 2: 1, 55: 3}
        before = copy.deepcopy((TABLE, labels))
        new = relabelled(TABLE, labels)
        self.assertEqual(new, {"a": (1,), "b": (0, 100), "c": (-BIG, 1, 1)})
        self.assertEqual(list(new), ["a", "b", "c"])
        self.assertEqual((TABLE, labels), before)
        self.assertEqual([list(TABLE), list(labels)], [list(before[0]), list(before[1])])

    def test_the_table_is_new(self):
        new = relabelled(LOOSE_TABLE, {3: 3})
        new["a"] = ()
        self.assertEqual(LOOSE_TABLE, {"b": (3,), "a": (3, 3)})
        self.assertEqual(relabelled(LOOSE_TABLE, {3: 3}), LOOSE_TABLE)

    def test_a_table_without_rows(self):
        self.assertEqual(relabelled({"b": (), "a": ()}, {}), {"a": (), "b": ()})
        self.assertEqual(relabelled({"a": ()}, {1: 2}), {"a": ()})


if __name__ == "__main__":
    unittest.main()
