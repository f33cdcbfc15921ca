"""Tests of [35] and of [9]: what is told in some tables."""

import itertools
import unittest

from countsfall.errors import TooMany
from countsfall.forms import is_table
from countsfall.patterns import row_of, rows_of
from countsfall.sometimes import apart_in, is_told_in, tells_sometimes, told_rows
from countsfall.tables import all_numbers, value_of
from tests.samples import (
    A, ALL_OPEN, B, BEST, EMPTY, FIRM, LOOSE, MIXED, OPEN, PAIR, TOP, WORST, tables_with)
from tests.test_patterns import BEYOND, CELLS, FULL, JUST, THREE, WIDE

BIG = 10 ** 30
NEVER = ("rank", ("b",), 4)
HOUSES = (PAIR, MIXED, LOOSE, FIRM, OPEN)
ASKS = ((A,), (BEST, WORST), (A, A), (WORST, B, A), (THREE, A), (BEST, ("rank", ("b",), 2)), (TOP, WORST), (NEVER, BEST))
FORMULAS = (A, B, BEST, WORST, THREE, NEVER, ("kth", 2, (A, B, WORST)))


def values_of(house, table, asks):
    """Return the tuple of the values of asks in a table."""
    return tuple(value_of(house, table, ask) for ask in asks)


def beyond_of(house):
    """Return how many rows more than least open sorts have here."""
    return 3 if house == OPEN else 0


class ToldInTest(unittest.TestCase):

    def test_the_examples(self):
        asks, a, b = (("rank", ("a", "b"), 1), ("rank", ("a", "c"), 1)), A, B
        self.assertEqual([tells_sometimes(CELLS, asks, a), is_told_in(CELLS, asks, b, {"a": (1,), "b": (2,), "c": (1,)})],
                         [None, True])

    def test_against_all_tables(self):
        seen = {True: 0, False: 0}
        for house in HOUSES:
            # In tables with the numbers 2, 4 and 6 there may be others below, between and above them.
            all_tables = tables_with(house, range(1, 8), beyond_of(house))
            some = tables_with(house, (2, 4, 6), beyond_of(house))[::1 if house != OPEN else 7]
            for asks, formula in itertools.product(ASKS, FORMULAS):
                values = {}
                for table in all_tables:
                    values.setdefault(values_of(house, table, asks), set()).add(value_of(house, table, formula))
                for table in some:
                    expected = len(values[values_of(house, table, asks)]) == 1
                    seen[expected] += 1
                    self.assertIs(is_told_in(house, asks, formula, table), expected, (house, asks, formula, table))
                    self.check_apart(house, asks, formula, table, expected)
        self.assertGreater(min(seen.values()), 1000)

    def check_apart(self, house, asks, formula, table, expected):
        apart = apart_in(house, asks, formula, table)
        self.assertIs(apart is None, expected)
        if apart is not None:
            self.assertIs(is_table(house, apart), True)
            self.assertEqual(list(apart), sorted(apart))
            self.assertEqual(values_of(house, apart, asks), values_of(house, table, asks))
            self.assertNotEqual(value_of(house, apart, formula), value_of(house, table, formula))

    def test_it_depends_on_the_row_alone(self):
        for house in HOUSES:
            for asks, formula in itertools.product(ASKS, FORMULAS[:4]):
                told = {}
                for table in tables_with(house, (-3, 0, 1), beyond_of(house))[::5]:
                    truth = is_told_in(house, asks, formula, table)
                    self.assertIs(told.setdefault(row_of(house, asks, table), truth), truth)

    def test_open_and_full_sorts(self):
        for house in (ALL_OPEN, FULL, (("a", 6, 6), ("b", 6, None))):
            for table in tables_with(house, (3, 5), 1):
                for asks, formula in itertools.product(ASKS[:4], FORMULAS[:4]):
                    self.check_apart(house, asks, formula, table, is_told_in(house, asks, formula, table))

    def test_nothing(self):
        empty = {"a": (), "b": ()}
        self.assertEqual([is_told_in(LOOSE, (BEST,), A, empty), apart_in(LOOSE, (BEST,), A, empty)], [True, None])
        self.assertIs(is_told_in(LOOSE, (B,), A, empty), False)
        self.check_apart(LOOSE, (B,), A, empty, False)
        self.check_apart(LOOSE, (B,), A, {"a": (0,), "b": ()}, False)
        self.check_apart(LOOSE, (B,), A, {"a": (1, 1), "b": ()}, False)
        self.assertIs(is_told_in(LOOSE, (WORST, B), A, {"a": (7,), "b": ()}), False)
        self.assertIs(is_told_in(PAIR, (A,), NEVER, {"a": (7,), "b": (7,)}), True)
        # Without rungs the value is in the one gap, whatever it is.
        for number in (-BIG, -1, 0, 1, BIG):
            self.check_apart(PAIR, (NEVER,), A, {"a": (number,), "b": (0,)}, False)

    def test_numbers_far_from_one_another(self):
        table = {"a": (-BIG,), "b": (BIG,)}
        self.assertEqual([is_told_in(PAIR, (BEST, WORST), A, table), is_told_in(PAIR, (BEST, B), A, table)], [False, False])
        self.assertEqual(apart_in(PAIR, (BEST, WORST), A, table), {"a": (BIG,), "b": (-BIG,)})
        self.check_apart(PAIR, (BEST, B), A, table, False)
        self.check_apart(PAIR, (B,), A, table, False)
        self.assertIs(is_told_in(PAIR, (BEST, WORST), A, {"a": (BIG,), "b": (BIG,)}), True)
        self.assertIs(is_told_in(PAIR, (BEST,), WORST, {"a": (BIG,), "b": (BIG,)}), False)

    def test_close_numbers(self):
        # No integer lies between them.
        table = {"a": (4,), "b": (5,), "c": (4,)}
        self.assertIs(is_told_in(CELLS, (("rank", ("a", "b", "c"), 1), ("rank", ("a", "b", "c"), 3)), A, table), False)
        self.check_apart(CELLS, (B, ("rank", ("a", "b", "c"), 3)), ("rank", ("c",), 1), table, False)

    def test_tables_are_new_and_stay(self):
        table = {"b": (5,), "a": (5,)}
        found = apart_in(PAIR, (BEST,), A, table)
        expected = dict(found)
        found.clear()
        self.assertEqual(apart_in(PAIR, (BEST,), A, table), expected)
        self.assertEqual([table, list(table)], [{"a": (5,), "b": (5,)}, ["b", "a"]])


class ToldRowsTest(unittest.TestCase):

    def test_against_all_tables(self):
        none = 0
        for house in HOUSES + (CELLS,):
            cells = house == CELLS
            tables = tables_with(house, (2, 4, 6), beyond_of(house))
            rest = (("rank", ("a", "c"), 1), ("rank", ("b", "c"), 1), ("rank", ("a", "b", "c"), 2))
            for asks in ASKS + ((rest[:2], rest, rest + (A,)) if cells else ()):
                for formula in FORMULAS:
                    rows = {}
                    for table in tables:
                        rows.setdefault(row_of(house, asks, table), table)
                    told = sorted(row for row in rows if is_told_in(house, asks, formula, rows[row]))
                    self.assertEqual(told_rows(house, asks, formula), told)
                    self.check_sometimes(house, asks, formula, [
                        table for table in tables if row_of(house, asks, table) in told] if cells or told == [] else None, told)
                    none += told == []
        self.assertGreater(none, 20)

    def check_sometimes(self, house, asks, formula, tables, told):
        found = tells_sometimes(house, asks, formula)
        self.assertIs(found is None, told == [])
        if found is not None:
            self.assertIs(is_table(house, found), True)
            self.assertEqual(list(found), sorted(found))
            self.assertIs(is_told_in(house, asks, formula, found), True)
            least = min(len(row) for row in told) - 1
            few = 0 if least == 0 and all(sort[1] == 0 for sort in house) else max(least, 1)
            self.assertEqual(len(all_numbers(found)), few)
            if tables is not None:
                self.assertEqual(few, min(len(all_numbers(table)) for table in tables))

    def test_as_few_numbers_as_can_be(self):
        for house in (PAIR, LOOSE, MIXED, EMPTY, (("a", 0, 2), ("b", 0, 0))):
            tables = tables_with(house, (2, 4, 6))
            for asks, formula in itertools.product(ASKS, FORMULAS):
                found = tells_sometimes(house, asks, formula) if len(house) > 1 or asks == (A,) else None
                if found is not None and len(house) > 1:
                    told = [table for table in tables if is_told_in(house, asks, formula, table)]
                    self.assertEqual(len(all_numbers(found)), min(len(all_numbers(table)) for table in told))
        self.assertEqual(tells_sometimes(LOOSE, (BEST,), A), {"a": (), "b": ()})
        self.assertEqual(tells_sometimes(EMPTY, (A,), A), {"a": ()})
        self.assertEqual(all_numbers(tells_sometimes(PAIR, (A,), A)), [1])
        self.assertEqual(len(all_numbers(tells_sometimes(PAIR, (BEST, B), A))), 2)

    def test_told_in_each_table_and_in_none(self):
        self.assertEqual(told_rows(PAIR, (A, B), BEST), rows_of(PAIR, (A, B)))
        self.assertEqual([told_rows(PAIR, (A,), B), tells_sometimes(PAIR, (A,), B)], [[], None])
        self.assertEqual(told_rows(PAIR, (A,), NEVER), rows_of(PAIR, (A,)))

    def test_results_are_new(self):
        found, table = told_rows(PAIR, (A,), A), tells_sometimes(PAIR, (A,), A)
        found.clear()
        table.clear()
        self.assertEqual(len(told_rows(PAIR, (A,), A)), 1)
        self.assertEqual(list(tells_sometimes(PAIR, (A,), A)), ["a", "b"])


class TooManyTest(unittest.TestCase):

    def check(self, most, call, *arguments):
        with self.assertRaises(TooMany) as caught:
            call(*arguments)
        self.assertEqual(caught.exception.most, most)

    def test_500_rows_and_more(self):
        self.assertEqual(told_rows(WIDE, JUST, JUST[0]), rows_of(WIDE, JUST))
        self.assertIsNotNone(tells_sometimes(WIDE, JUST, ("rank", ("b",), 2)))
        table = {"a": (1, 2), "b": (3,)}
        for call in (told_rows, tells_sometimes):
            self.check(500, call, WIDE, BEYOND, A)
        self.assertIs(is_told_in(WIDE, BEYOND, BEYOND[1], table), True)
        self.assertIsNone(apart_in(WIDE, BEYOND, BEYOND[1], table))

    def test_more_than_200_counts(self):
        three, deep = (("a", 0, None), ("b", 0, None), ("c", 0, None)), ("rank", ("c",), 5)
        table = {"a": (1, 2), "b": (3,), "c": ()}
        many = tuple(("rank", (name,), k) for name in "abc" for k in (1, 2, 3, 4))
        for asks, formula in (((deep,), A), ((A, deep), B), ((A, B), deep), (many, deep)):
            for call in (is_told_in, apart_in):
                self.check(200, call, three, asks, formula, table)
            for call in (told_rows, tells_sometimes):
                self.check(200, call, three, asks, formula)
        self.check(500, told_rows, three, many, A)
        just = (("a", 0, 9), ("b", 0, 9), ("c", 0, 1))
        self.assertIs(is_told_in(just, (A,), ("rank", ("a", "b"), 9), {"a": (), "b": (1,) * 9, "c": ()}), False)


if __name__ == "__main__":
    unittest.main()
