"""Tests of [17] and of [5]: falls."""

import copy
import itertools
import unittest

from countsfall.errors import CountError
from countsfall.falls import counts_at, fall_of, is_fall, table_of
from countsfall.tables import sizes_of, value_of
from countsfall.ways import holds
from tests.samples import (
    ALL_OPEN, EMPTY, FIRM, HOUSES, LOOSE, MIXED, ODD_VALUES, OPEN, PAIR, broken, formulas_of, sizes_from, tables_with)

TABLE = {"b": (3, 4), "a": (4,)}
BIG = 10 ** 30


class CountsAtTest(unittest.TestCase):

    def test_at_just_below_and_above_a_number(self):
        counts = [counts_at(MIXED, TABLE, number) for number in (-BIG, 2, 3, 4, 5, BIG)]
        self.assertEqual(counts, [(1, 2), (1, 2), (1, 2), (1, 1), (0, 0), (0, 0)])
        self.assertEqual([counts_at(LOOSE, {"a": (-BIG, BIG), "b": ()}, number) for number in (-BIG, 1 - BIG, BIG)],
                         [(2, 0), (1, 0), (1, 0)])

    def test_values_and_counts(self):
        for house in (PAIR, MIXED, LOOSE, FIRM, OPEN):
            formulas = formulas_of(house)
            for table in tables_with(house, (1, 2, 4), 1):
                sizes = sizes_of(house, table)
                for formula in formulas:
                    value = value_of(house, table, formula)
                    self.assertIs(holds(house, formula, sizes), value is not None)
                    for number in range(0, 6):
                        held = holds(house, formula, counts_at(house, table, number))
                        self.assertIs(held, value is not None and value >= number)


class FallTest(unittest.TestCase):

    def test_the_examples(self):
        self.assertEqual([counts_at(MIXED, TABLE, 4), fall_of(MIXED, TABLE)], [(1, 1), ((3, (1, 2)), (4, (1, 1)))])
        table = table_of(MIXED, ((-1, (1, 2)), (0, (0, 2)), (6, (0, 1))))
        self.assertEqual(table, {"a": (-1,), "b": (0, 6)})

    def test_from_a_table_to_its_fall_and_back(self):
        for house in HOUSES:
            falls = {}
            for table in tables_with(house, (-BIG, -1, 3)):
                fall = fall_of(house, table)
                self.assertIs(is_fall(house, fall), True)
                self.assertEqual(table_of(house, fall), table)
                self.assertNotIn(fall, falls)
                falls[fall] = table

    def test_from_a_fall_to_its_table_and_back(self):
        for house in (PAIR, MIXED, LOOSE, EMPTY):
            numbers = (-1, 5, 6)
            counts = sorted(set(itertools.product(*[range(sort[2] + 1) for sort in house])))
            seen = 0
            for many in range(4):
                for chosen in itertools.combinations(numbers, many):
                    for falling in itertools.permutations(counts, many):
                        fall = tuple(zip(chosen, falling))
                        if is_fall(house, fall):
                            seen += 1
                            table = table_of(house, fall)
                            self.assertEqual(list(table), [sort[0] for sort in house])
                            self.assertEqual(fall_of(house, table), fall)
            self.assertEqual(seen, len(tables_with(house, numbers)))

    def test_the_order_of_the_keys_and_the_argument(self):
        before = copy.deepcopy(TABLE)
        fall = fall_of(MIXED, TABLE)
        self.assertEqual(list(TABLE.items()), list(before.items()))
        table = table_of(MIXED, fall)
        self.assertEqual(list(table.items()), [("a", (4,)), ("b", (3, 4))])
        table["a"] = (0, 0)
        self.assertEqual(table_of(MIXED, fall), TABLE)

    def test_a_table_without_rows(self):
        self.assertEqual([fall_of(LOOSE, {"a": (), "b": ()}), table_of(LOOSE, ())], [(), {"a": (), "b": ()}])
        lets_none = [is_fall(house, ()) for house in (PAIR, MIXED, LOOSE, FIRM, OPEN, ALL_OPEN, EMPTY)]
        self.assertEqual(lets_none, [False, False, True, False, False, False, True])


class IsFallTest(unittest.TestCase):

    def test_falls(self):
        for fall in (((3, (1, 2)), (4, (1, 1))), ((3, (1, 0)),), ((-BIG, (1, 2)), (0, (0, 2)), (BIG, (0, 1)))):
            self.assertIs(is_fall(MIXED, fall), True)
        self.assertIs(is_fall(OPEN, ((0, (40, 1)), (1, (40, 0)), (2, (1, 0)))), True)

    def test_no_falls(self):
        no_falls = [
            ((3, (1, 2)), (3, (1, 1))), ((4, (1, 2)), (3, (1, 1))), ((3, (1, 2)), (4, (1, 2))), ((3, (1, 1)), (4, (1, 2))),
            ((3, (0, 2)),), ((3, (1, 3)),), ((3, (2, 1)),), ((3, (1, 2)), (4, (0, 0))), ((3, (0, 0)),), ((3, (1, -1)),),
            ((3, (1, 2)), (4, (0, 2)), (5, (1, 0))), ((3, (1,)),), ((3, (1, 2, 0)),), ((3, (1, 2), 1),), ((3,),), (3, (1, 2)),
            ((True, (1, 2)),), ((3, (True, 2)),), ((3, [1, 2]),), [(3, (1, 2))], ([3, (1, 2)],), ((None, (1, 2)),), ((3, None),),
            (("3", (1, 2)),), {3: (1, 2)}, ((3, (1, 2)), (False, (1, 1))), ((3, (1, 2)), ((1, 1), 4)), ((3, (1, 2)), None)]
        for thing in no_falls:
            self.assertIs(is_fall(MIXED, thing), False, thing)
        for thing in (((0, (40, 3)),), ((0, (40, 0)),), ((0, (40, 1)), (1, (41, 0)))):
            self.assertIs(is_fall(OPEN, thing), False, thing)
        self.assertIs(is_fall(LOOSE, ((0, (0, 0)),)), False)

    def test_one_part_of_another_kind(self):
        for thing in broken(((3, (1, 2)), (4, (1, 1)))):
            self.assertIs(is_fall(MIXED, thing), False, thing)

    def test_any_value(self):
        for thing in ODD_VALUES:
            before = thing if isinstance(thing, CountError) else copy.deepcopy(thing)
            found = [is_fall(house, thing) for house in (PAIR, LOOSE, OPEN)]
            self.assertEqual(found, [thing == ((5, (1, 1)),), thing in ((), ((5, (1, 1)),)), thing == ((5, (1, 1)),)])
            self.assertTrue(all(isinstance(told, bool) for told in found))
            self.assertEqual(thing, before)

    def test_all_sizes_of_a_house_begin_falls(self):
        for house in HOUSES:
            for sizes in sizes_from(house):
                self.assertIs(is_fall(house, ((0, sizes),)), any(sizes))


if __name__ == "__main__":
    unittest.main()
