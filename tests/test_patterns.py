"""Tests of [34] and of [5]: rows of patterns."""

import itertools
import unittest

from countsfall.errors import TooMany
from countsfall.falls import counts_at
from countsfall.forms import is_table
from countsfall.patterns import pattern_of, row_of, rows_of, table_by
from countsfall.tables import all_numbers, sizes_of, value_of
from countsfall.ways import holds
from tests.samples import (
    A, ALL_OPEN, B, BEST, EMPTY, FIRM, LOOSE, MIXED, OPEN, PAIR, TOP, WORST, counts_within, tables_with)

CELLS = (("a", 1, 1), ("b", 1, 1), ("c", 1, 1))
FULL = (("a", 3, 4), ("b", 2, None))
THREE = ("rank", ("a", "b"), 3)
HOUSES = (PAIR, MIXED, LOOSE, FIRM, OPEN, ALL_OPEN, FULL)
ASKS = ((A,), (BEST, WORST), (A, A), (WORST, B, A), (THREE, A), (TOP, ("rank", ("b",), 2)), (B, ("kth", 1, (WORST, A)), BEST, A))
# Asks with just 500 rows of patterns, and such with 501.
WIDE = (("a", 0, 4), ("b", 1, 4))
BOTH = ("a", "b")
JUST = (
    ("rank", ("b",), 1), ("rank", BOTH, 6), ("rank", ("b",), 4), ("rank", BOTH, 3), ("rank", BOTH, 5), ("rank", ("a",), 1),
    ("kth", 2, (("rank", ("b",), 1), ("rank", ("b",), 3))),
    ("kth", 2, (("rank", BOTH, 8), ("rank", ("b",), 2), ("rank", BOTH, 6))))
BEYOND = (
    ("kth", 2, (("rank", ("a",), 4), ("rank", BOTH, 8), ("rank", BOTH, 4))), ("rank", BOTH, 3), ("rank", ("a",), 2),
    ("rank", ("a",), 3), ("rank", BOTH, 6), ("kth", 2, (("rank", BOTH, 5), ("rank", ("a",), 2), ("rank", BOTH, 4))),
    ("rank", ("b",), 4), ("rank", BOTH, 4))


def plain_row(house, asks, table):
    """Return the row of patterns of a table by the words of the document."""
    row = [tuple(holds(house, ask, sizes_of(house, table)) for ask in asks)]
    numbers = all_numbers(table)
    for number in range(numbers[0] - 1, numbers[-1] + 2) if numbers else ():
        pattern = tuple(holds(house, ask, counts_at(house, table, number)) for ask in asks)
        if pattern != row[-1]:
            row.append(pattern)
    return tuple(row)


def beyond_of(house):
    """Return how many rows more than least an open sort has to have for all that can be."""
    return 3 if house in (OPEN, ALL_OPEN) else 2


class RowTest(unittest.TestCase):

    def test_a_pattern(self):
        for house in (PAIR, MIXED, LOOSE):
            for asks in ASKS:
                for counts in counts_within(tuple(sort[2] for sort in house)):
                    found = pattern_of(house, asks, counts)
                    self.assertEqual(found, tuple(holds(house, ask, counts) for ask in asks))
                    self.assertEqual({type(truth) for truth in found}, {bool})
        self.assertEqual(pattern_of(ALL_OPEN, (A, WORST, THREE), (0, 2)), (False, True, False))

    def test_against_the_words(self):
        for house in HOUSES:
            tables = tables_with(house, (0, 2, 3), 1 if house in (ALL_OPEN, FULL) else 2)
            for asks in ASKS:
                for table in tables:
                    row = row_of(house, asks, table)
                    self.assertEqual(row, plain_row(house, asks, table))
                    self.assertIs(any(row[-1]), False)

    def test_tables_without_rows_and_equal_numbers(self):
        self.assertEqual(row_of(LOOSE, (A, B), {"a": (), "b": ()}), ((False, False),))
        self.assertEqual(row_of(EMPTY, (A,), {"a": ()}), ((False,),))
        self.assertEqual(row_of(LOOSE, (B,), {"a": (5, 6), "b": ()}), ((False,),))
        self.assertEqual(row_of(PAIR, (A, B), {"a": (5,), "b": (5,)}), ((True, True), (False, False)))
        far = {"b": (-9,), "a": (10 ** 30,)}
        self.assertEqual(row_of(PAIR, (WORST, BEST), far), ((True, True), (False, True), (False, False)))
        self.assertEqual(row_of(MIXED, (WORST,), {"a": (1,), "b": (2, 3)}), ((True,), (False,)))

    def test_the_same_row_exactly_if_the_values_lie_in_the_same_order(self):
        for house in (PAIR, MIXED, LOOSE):
            tables = tables_with(house, (0, 2, 7))
            for asks in ASKS:
                orders = {}
                for table in tables:
                    values = [value_of(house, table, ask) for ask in asks]
                    known = sorted({value for value in values if value is not None})
                    order = tuple(None if value is None else known.index(value) for value in values)
                    orders.setdefault(order, set()).add(row_of(house, asks, table))
                self.assertEqual([len(rows) for rows in orders.values()], [1] * len(orders))
                self.assertEqual(len(set().union(*orders.values())), len(orders))


class RowsTest(unittest.TestCase):

    def test_the_example(self):
        asks = (("rank", ("a", "b"), 1), ("rank", ("a", "c"), 1))
        self.assertEqual(rows_of(CELLS, asks)[:2], [
            ((True, True), (False, False)), ((True, True), (False, True), (False, False))])

    def test_against_all_tables(self):
        for house in HOUSES:
            tables = tables_with(house, (1, 2, 3, 4) if house not in (ALL_OPEN, FULL) else (1, 2, 3), beyond_of(house))
            for asks in ASKS if house not in (ALL_OPEN, FULL) else ASKS[:3]:
                expected = sorted({row_of(house, asks, table) for table in tables})
                self.assertEqual(rows_of(house, asks), expected)

    def test_three_cells(self):
        ranks = [("rank", lot, 1) for lot in (("a",), ("b",), ("c",), ("a", "b"), ("b", "c"), ("a", "b", "c"))]
        tables = tables_with(CELLS, (1, 2, 3))
        for asks in itertools.combinations(ranks, 3):
            self.assertEqual(rows_of(CELLS, asks), sorted({row_of(CELLS, asks, table) for table in tables}))
        # There are 13 orders of three numbers, equal ones allowed.
        self.assertEqual(len(rows_of(CELLS, tuple(ranks[:3]))), 13)

    def test_nothing(self):
        self.assertEqual(rows_of(PAIR, (("rank", ("a",), 2),)), [((False,),)])
        self.assertEqual(rows_of(EMPTY, (A, A)), [((False, False),)])
        self.assertEqual(rows_of(LOOSE, (B,)), [((False,),), ((True,), (False,))])

    def test_lists_are_new(self):
        found = rows_of(PAIR, (A,))
        found.clear()
        self.assertEqual(rows_of(PAIR, (A,)), [((True,), (False,))])


class TableByTest(unittest.TestCase):

    def check(self, house, asks, row):
        table = table_by(house, asks, row)
        self.assertIs(is_table(house, table), True)
        self.assertEqual(list(table), sorted(table))
        self.assertEqual(row_of(house, asks, table), row)
        self.assertLessEqual(set(all_numbers(table)), set(range(1, max(len(row), 2))))

    def test_of_each_row(self):
        for house in HOUSES + ((("a", 6, 6), ("b", 6, None)),):
            for asks in ASKS:
                for row in rows_of(house, asks):
                    self.check(house, asks, row)

    def test_of_rows_that_no_table_has(self):
        for house in (PAIR, LOOSE, FIRM):
            for asks in ASKS[:4]:
                rows, patterns = rows_of(house, asks), list(itertools.product((False, True), repeat=len(asks)))
                for many in range(4):
                    for row in itertools.product(patterns, repeat=many):
                        if row not in rows:
                            self.assertIsNone(table_by(house, asks, row), (house, asks, row))

    def test_the_empty_tuple_and_other_patterns(self):
        yes, no = (True, True), (False, False)
        self.assertEqual(table_by(PAIR, (A, B), (yes, (False, True), no)), {"a": (1,), "b": (2,)})
        for row in ((), ((),), (yes,), (no,), (yes, yes, no), (yes, no, no), (no, yes), ((True,), (False,)), (yes + yes, no + no),
                    (yes, (False,)), (yes, (False, True, True), no), (no, no), (yes, (True, False), (False, True), no)):
            self.assertIsNone(table_by(PAIR, (A, B), row), row)

    def test_one_pattern(self):
        self.assertEqual(table_by(LOOSE, (B,), ((False,),)), {"a": (), "b": ()})
        self.assertEqual(table_by(PAIR, (THREE,), ((False,),)), {"a": (1,), "b": (1,)})
        self.assertEqual(table_by(EMPTY, (A,), ((False,),)), {"a": ()})

    def test_tables_are_new(self):
        row = ((True,), (False,))
        found = table_by(PAIR, (A,), row)
        expected = dict(found)
        found.clear()
        self.assertEqual(table_by(PAIR, (A,), row), expected)


class TooManyTest(unittest.TestCase):

    def check(self, most, call, *arguments):
        with self.assertRaises(TooMany) as caught:
            call(*arguments)
        self.assertEqual(caught.exception.most, most)

    def test_500_rows_and_more(self):
        rows = rows_of(WIDE, JUST)
        self.assertEqual([len(rows), len(set(rows)), rows], [500, 500, sorted(rows)])
        self.check(500, rows_of, WIDE, BEYOND)
        five = tuple((name, 1, 1) for name in "abcde")
        cells = tuple(("rank", (name,), 1) for name in "abcde")
        # There are 75 orders of four numbers, equal ones allowed, and 541 of five.
        self.assertEqual(len(rows_of(five, cells[:4])), 75)
        self.check(500, rows_of, five, cells)
        self.assertEqual(set(all_numbers(table_by(five, cells, tuple(
            tuple(place >= k for place in range(5)) for k in range(6))))), {1, 2, 3, 4, 5})
        self.assertEqual(len(set(rows_of((("a", 0, 8),), tuple(("rank", ("a",), k) for k in range(1, 9))))), 256)
        self.check(500, rows_of, (("a", 0, 9),), tuple(("rank", ("a",), k) for k in range(1, 10)))

    def test_more_than_200_counts(self):
        three, deep = (("a", 0, None), ("b", 0, None), ("c", 0, None)), ("rank", ("c",), 5)
        many = tuple(("rank", (name,), k) for name in "abc" for k in (1, 2, 3, 5))
        for asks in ((deep,), (A, deep), many):
            self.check(200, rows_of, three, asks)
            self.check(200, table_by, three, asks, ())
            self.check(200, table_by, three, asks, ((False,) * len(asks),))
        self.check(200, rows_of, (("a", 0, 6), ("b", 0, 5), ("c", 0, 4)), (("rank", ("a",), 6),))
        just = (("a", 0, 9), ("b", 0, 9), ("c", 0, 1))
        self.assertEqual(len(rows_of(just, (("rank", ("a", "b"), 9),))), 2)
        self.assertEqual(len(table_by(just, (("rank", ("a", "b"), 9),), ((True,), (False,)))["b"]), 9)


if __name__ == "__main__":
    unittest.main()
