"""Tests of [29] and of [8]: always."""

import copy
import itertools
import unittest

from countsfall.always import always_pairs, are_always_pairs, pair_table, tells_always
from countsfall.errors import CountError, TooMany
from countsfall.forms import is_table
from countsfall.tables import value_of
from tests.samples import (
    A, ALL_OPEN, B, BEST, EMPTY, FIRM, HELD, LOOSE, MIXED, ODD_VALUES, OPEN, PAIR, TOP, WORST, broken, counts_within, is_within,
    plain_caps, ranks_of, sizes_from, tables_with)

FULL = (("a", 3, 4), ("b", 2, None))
HOUSES = (PAIR, MIXED, LOOSE, FIRM, OPEN, ALL_OPEN, FULL)
THREE = ("rank", ("a", "b"), 3)
ASKS = ((), (A,), (BEST,), (A, A), (A, B), (BEST, WORST), (BEST, WORST, B), (WORST, B, BEST), (A, THREE), (TOP, BEST),
        (("kth", 1, (A, WORST)), B), (BEST, WORST, THREE), (("rank", ("b",), 2), B, A, WORST))
FORMULAS = (A, B, BEST, WORST, THREE, TOP, ("rank", ("b",), 2), ("kth", 2, (A, B, WORST)))


def values_of(house, table, asks):
    """Return the tuple of the values of asks in a table."""
    return tuple(value_of(house, table, ask) for ask in asks)


def plain_tells(house, asks, formula, tables):
    """Return whether asks tell a formula always, by these tables."""
    told = {}
    for table in tables:
        value = value_of(house, table, formula)
        if told.setdefault(values_of(house, table, asks), value) != value:
            return False
    return True


def all_pairs(house, beyond=1):
    """Return all pairs of a house, of open sorts up to so many rows more than least."""
    return [(sizes, counts) for sizes in sizes_from(house, beyond) for counts in counts_within(sizes)]


class PairTableTest(unittest.TestCase):

    def test_ones_and_twos(self):
        self.assertEqual(pair_table(MIXED, ((1, 2), (0, 1))), {"a": (1,), "b": (1, 2)})
        self.assertEqual(pair_table(MIXED, ((1, 2), (1, 2))), {"a": (2,), "b": (2, 2)})
        self.assertEqual(pair_table(MIXED, ((1, 0), (0, 0))), {"a": (1,), "b": ()})
        self.assertEqual(pair_table(OPEN, ((40, 1), (3, 0)))["a"], (1,) * 37 + (2,) * 3)
        self.assertEqual(pair_table(EMPTY, ((0,), (0,))), {"a": ()})

    def test_each_table_of_ones_and_twos_is_that_of_one_pair(self):
        for house in HOUSES:
            found = [pair_table(house, pair) for pair in all_pairs(house)]
            tables = tables_with(house, (1, 2), 1)
            self.assertEqual(len(found), len(tables))
            for table in tables:
                self.assertEqual(found.count(table), 1)
            self.assertEqual([list(table) for table in found], [["a", "b"]] * len(found))


class TellsTest(unittest.TestCase):

    def test_the_examples(self):
        self.assertEqual([tells_always(PAIR, (BEST, WORST), A), tells_always(PAIR, (BEST, WORST, B), A)], [False, True])

    def test_against_all_tables_of_ones_and_twos(self):
        told = []
        for house in HOUSES:
            tables = tables_with(house, (1, 2), 4)
            for asks in ASKS:
                for formula in FORMULAS:
                    expected = plain_tells(house, asks, formula, tables)
                    self.assertIs(tells_always(house, asks, formula), expected, (house, asks, formula))
                    self.check_pairs(house, asks, formula, expected)
                    told.append(expected)
        self.assertGreater(min(told.count(True), told.count(False)), 100)

    def check_pairs(self, house, asks, formula, expected):
        pairs = always_pairs(house, asks, formula)
        self.assertIs(pairs is None, expected)
        if pairs is None:
            return
        self.assertIs(are_always_pairs(house, asks, formula, pairs), True)
        self.assertIs(are_always_pairs(house, asks, formula, pairs[::-1]), True)
        self.assertEqual([type(pairs), len(pairs)], [tuple, 2])
        caps = plain_caps(house, asks + (formula,))
        for sizes, counts in pairs:
            self.assertIs(is_within(counts, sizes), True)
            for sort, many, cap in zip(house, sizes, caps):
                self.assertLessEqual(many, max(sort[1], cap))
        one, other = [pair_table(house, pair) for pair in pairs]
        self.assertIs(is_table(house, one) and is_table(house, other), True)
        self.assertEqual(values_of(house, one, asks), values_of(house, other, asks))
        self.assertNotEqual(value_of(house, one, formula), value_of(house, other, formula))

    def test_more_numbers_tell_no_more(self):
        for house in (PAIR, MIXED, LOOSE):
            tables = tables_with(house, (1, 2, 5))
            for asks in ASKS:
                for formula in FORMULAS[:5]:
                    self.assertIs(tells_always(house, asks, formula), plain_tells(house, asks, formula, tables))

    def test_one_and_two_asks_of_all_ranks(self):
        for house in (LOOSE, FIRM, HELD, (("a", 0, 1), ("b", 1, 1))):
            tables, ranks = tables_with(house, (1, 2)), ranks_of(house)
            for asks in itertools.combinations_with_replacement(ranks, 2):
                for formula in ranks:
                    expected = plain_tells(house, asks, formula, tables)
                    self.assertIs(tells_always(house, asks, formula), expected)
                    self.check_pairs(house, asks, formula, expected)

    def test_no_asks(self):
        for house, formula, expected in ((PAIR, ("rank", ("a",), 2), True), (EMPTY, A, True), (PAIR, A, False), (LOOSE, A, False),
                                         (ALL_OPEN, A, False), (LOOSE, THREE, False), (LOOSE, ("rank", ("a", "b"), 4), True)):
            self.assertIs(tells_always(house, (), formula), expected)
            self.check_pairs(house, (), formula, expected)

    def test_an_ask_twice(self):
        for asks, expected in (((A, A), False), ((A, B, A), True), ((WORST, WORST, BEST, B), False)):
            self.assertIs(tells_always(PAIR, asks, BEST), expected or BEST in asks)
            self.assertIs(tells_always(PAIR, asks + asks, BEST), expected or BEST in asks)

    def test_unlike_sizes(self):
        # The greatest number of both sorts does not tell of how many rows it is one.
        self.check_pairs(LOOSE, (BEST,), WORST, False)
        self.check_pairs((("a", 0, 1), ("b", 0, 1)), (BEST,), A, False)
        self.assertIs(tells_always((("a", 0, 1), ("b", 1, 1)), (WORST, BEST, B), A), True)

    def test_a_least_above_the_cap(self):
        house = (("a", 6, 9), ("b", 5, None))
        self.check_pairs(house, (BEST,), A, False)
        pairs = always_pairs(house, (BEST,), A)
        self.assertEqual([sizes for sizes, _ in pairs], [(6, 5), (6, 5)])
        self.assertIs(tells_always(house, (A, B), BEST), True)

    def test_pairs_are_given_again(self):
        self.assertEqual(always_pairs(PAIR, (BEST,), A), always_pairs(PAIR, (BEST,), A))
        table = pair_table(PAIR, ((1, 1), (0, 1)))
        table.clear()
        self.assertEqual(pair_table(PAIR, ((1, 1), (0, 1))), {"a": (1,), "b": (2,)})


class ArePairsTest(unittest.TestCase):

    def test_against_the_tables(self):
        for house in (PAIR, MIXED, LOOSE):
            pairs = all_pairs(house)
            for asks in ASKS[::3]:
                for one, other in itertools.product(pairs, pairs):
                    low, high = pair_table(house, one), pair_table(house, other)
                    expected = values_of(house, low, asks) == values_of(house, high, asks)
                    expected = expected and value_of(house, low, A) != value_of(house, high, A)
                    self.assertIs(are_always_pairs(house, asks, A, (one, other)), expected)

    def test_counts_beyond_the_caps(self):
        self.assertIs(are_always_pairs(ALL_OPEN, (BEST,), A, (((90, 99), (50, 60)), ((99, 1), (0, 1)))), True)
        self.assertIs(are_always_pairs(ALL_OPEN, (BEST,), A, (((90, 99), (50, 60)), ((99, 1), (1, 1)))), False)
        self.assertIs(are_always_pairs(ALL_OPEN, (BEST,), A, (((90, 99), (50, 60)), ((99, 1), (0, 0)))), False)
        five = tuple((name, 0, None) for name in "abcde")
        deep = ("rank", ("a", "e"), 9)
        self.assertIs(are_always_pairs(five, (), deep, (((9, 0, 0, 0, 0), (0,) * 5), ((8, 9, 9, 9, 0), (0,) * 5))), True)
        self.assertIs(are_always_pairs(five, (), deep, (((9, 0, 0, 0, 0), (0,) * 5), ((8, 9, 9, 9, 1), (0,) * 5))), False)

    def test_sizes_that_the_house_does_not_let(self):
        right = (((1, 2), (0, 1)), ((1, 1), (1, 0)))
        self.assertIs(are_always_pairs(MIXED, (BEST,), A, right), True)
        for wrong in (((1, 3), (0, 1)), ((0, 2), (0, 1)), ((1, 1), (0, 2)), ((2, 2), (0, 1)), ((1, 2), (0, -1)),
                      ((1, 2), (0, 1, 0)), ((1,), (0,)), ((1, 2), (0, 1), ()), ((1, 2),), (1, 2), None, [(1, 2), (0, 1)], ((1, 2), [0, 1])):
            self.assertIs(are_always_pairs(MIXED, (BEST,), A, (wrong, right[1])), False, wrong)
            self.assertIs(are_always_pairs(MIXED, (BEST,), A, (right[1], wrong)), False, wrong)
        for wrong in (right[:1], right + right[:1], list(right), (right,), right[0], {right: right}, (right[0], right[0])):
            self.assertIs(are_always_pairs(MIXED, (BEST,), A, wrong), False, wrong)

    def test_one_part_otherwise(self):
        right = (((1, 2), (0, 1)), ((1, 1), (1, 0)))
        for thing in broken(right):
            self.assertIs(are_always_pairs(MIXED, (BEST,), A, thing), False, thing)

    def test_any_value(self):
        for thing in ODD_VALUES:
            before = thing if isinstance(thing, CountError) else copy.deepcopy(thing)
            self.assertIs(are_always_pairs(PAIR, (), A, thing), False)
            self.assertEqual(thing, before)


class TooManyTest(unittest.TestCase):

    def test_by_asks_and_formula(self):
        three, deep = (("a", 0, None), ("b", 0, None), ("c", 0, None)), ("rank", ("c",), 5)
        for house, asks, formula in ((three, (deep,), A), (three, (A, deep), B), (three, (), deep),
                                     ((("a", 0, 6), ("b", 0, 5), ("c", 0, 4)), (A,), ("kth", 1, (A, ("rank", ("b",), 6))))):
            for call in (tells_always, always_pairs):
                with self.assertRaises(TooMany) as caught:
                    call(house, asks, formula)
                self.assertEqual(caught.exception.most, 200)
            self.assertIs(are_always_pairs(house, asks, formula, None), False)

    def test_just_200(self):
        just = (("a", 0, 9), ("b", 0, 9), ("c", 0, 1))
        one, other = ("rank", ("a", "b"), 9), ("rank", ("a",), 9)
        self.assertIs(tells_always(just, (one,), other), False)
        self.assertIs(are_always_pairs(just, (one, A), other, always_pairs(just, (one, A), other)), True)
        self.assertIs(tells_always(just, (one, other), one), True)


if __name__ == "__main__":
    unittest.main()
