"""Tests of [18]: kinds."""

import copy
import unittest

from countsfall.errors import CountError, IsOpen, TooMany
from countsfall.falls import fall_of
from countsfall.kinds import (
    all_kinds, coarser_kinds, is_coarser, is_kind, kind_of, kinds_many, tables_many, value_place, with_numbers)
from countsfall.tables import all_numbers, relabelled, value_of
from tests.samples import (
    ALL_OPEN, EMPTY, FIRM, HELD, HOUSES, LOOSE, MIXED, ODD_VALUES, OPEN, PAIR, broken, formulas_of, tables_with)

CLOSED = (PAIR, MIXED, LOOSE, FIRM, HELD, EMPTY)
KIND = ((1, 2), (0, 2), (0, 1))


def enough_numbers(house):
    """Return as many numbers as a table of the house can have."""
    return range(sum(sort[2] for sort in house))


def column(rows):
    """Return a kind of a house of one open sort with so many counts."""
    return tuple((many,) for many in range(rows, 0, -1))


class KindTest(unittest.TestCase):

    def test_the_examples(self):
        self.assertEqual(kind_of(MIXED, {"a": (4,), "b": (3, 4)}), ((1, 2), (1, 1)))
        self.assertEqual(value_place(MIXED, KIND, ("rank", ("a", "b"), 2)), 1)
        self.assertEqual(coarser_kinds(MIXED, KIND), [((1, 2),), ((1, 2), (0, 1)), ((1, 2), (0, 2)), KIND])
        self.assertEqual(all_kinds(PAIR), [((1, 1),), ((1, 1), (0, 1)), ((1, 1), (1, 0))])
        self.assertEqual([kinds_many(MIXED), tables_many(PAIR, 5, 7)], [12, 9])

    def test_same_kind_exactly_if_relabelled_makes_one_of_the_other(self):
        for house in (PAIR, MIXED, LOOSE):
            tables = tables_with(house, (1, 2, 5))
            for one in tables:
                for other in tables:
                    numbers = all_numbers(other)
                    same = len(numbers) == len(all_numbers(one))
                    same = same and relabelled(one, dict(zip(all_numbers(one), numbers))) == other
                    self.assertIs(kind_of(house, one) == kind_of(house, other), same)

    def test_a_kind_with_numbers_and_back(self):
        for house in HOUSES:
            for table in tables_with(house, (-7, 0, 1, 10 ** 29), 1):
                kind = kind_of(house, table)
                self.assertIs(is_kind(house, kind), True)
                self.assertEqual(kind, tuple(counts for _, counts in fall_of(house, table)))
                found = with_numbers(house, kind, tuple(all_numbers(table)))
                self.assertEqual(found, table)
                self.assertEqual(list(found), sorted(table))
                numbers = tuple(range(-3, len(kind) - 3))
                self.assertEqual(kind_of(house, with_numbers(house, kind, numbers)), kind)
        self.assertEqual(with_numbers(MIXED, KIND, (-1, 0, 6)), {"a": (-1,), "b": (0, 6)})
        self.assertEqual(with_numbers(LOOSE, (), ()), {"a": (), "b": ()})

    def test_is_kind(self):
        for thing in (((1, 2),), KIND, ((1, 0),)):
            self.assertIs(is_kind(MIXED, thing), True)
        no_kinds = [
            ((0, 2),), ((1, 3),), ((1, 2), (1, 2)), ((1, 1), (1, 2)), ((1, 2), (0, 0)), ((1, 2), (0, 1), (1, 0)), (), (1, 2),
            [(1, 2)], ([1, 2],), ((True, 2),), ((1, 2, 0),), ((1,),), ((1, -1),), ((1, None),), None, ((3, (1, 2)),), {(1, 2): 1}]
        for thing in no_kinds:
            self.assertIs(is_kind(MIXED, thing), False, thing)
        for thing in broken(KIND):
            self.assertIs(is_kind(MIXED, thing), False, thing)
        self.assertEqual([is_kind(OPEN, ((40, 1), (0, 1))), is_kind(OPEN, ((40, 0),))], [True, False])

    def test_is_kind_of_any_value(self):
        for thing in ODD_VALUES:
            before = thing if isinstance(thing, CountError) else copy.deepcopy(thing)
            self.assertIs(is_kind(PAIR, thing), thing == ((1, 1), (0, 1)))
            self.assertEqual(thing, before)

    def test_the_empty_kind(self):
        self.assertEqual([is_kind(house, ()) for house in HOUSES], [
            False, False, True, False, False, False, False, True])
        self.assertEqual(kind_of(LOOSE, {"b": (), "a": ()}), ())
        self.assertEqual([coarser_kinds(LOOSE, ()), is_coarser(LOOSE, (), ())], [[()], True])
        self.assertEqual([is_coarser(LOOSE, (), ((1, 0),)), is_coarser(LOOSE, ((1, 0),), ())], [False, False])
        self.assertIsNone(value_place(LOOSE, (), ("rank", ("a",), 1)))

    def test_the_place_of_a_value(self):
        for house in (PAIR, MIXED, LOOSE, OPEN):
            for table in tables_with(house, (0, 2, 5), 1):
                kind, numbers = kind_of(house, table), all_numbers(table)
                for formula in formulas_of(house):
                    place = value_place(house, kind, formula)
                    value = None if place is None else numbers[place]
                    self.assertEqual(value, value_of(house, table, formula))
        self.assertIsNone(value_place(MIXED, KIND, ("rank", ("a",), 2)))
        self.assertEqual(value_place(MIXED, KIND, ("rank", ("a",), 1)), 0)
        self.assertEqual(value_place(MIXED, KIND, ("rank", ("b",), 1)), 2)


class CoarserTest(unittest.TestCase):

    def test_coarser_kinds_come_about_by_equal_numbers(self):
        for house in CLOSED:
            kinds = all_kinds(house)
            for kind in kinds:
                numbers = tuple(range(len(kind)))
                table = with_numbers(house, kind, numbers)
                labels = [(label,) for label in numbers[:1]]
                for _ in numbers[1:]:
                    labels = [told + (told[-1] + step,) for told in labels for step in (0, 1)]
                expected = [kind_of(house, relabelled(table, dict(zip(numbers, told)))) for told in labels or [()]]
                found = coarser_kinds(house, kind)
                self.assertEqual(found, sorted(expected))
                for other in kinds:
                    self.assertIs(is_coarser(house, other, kind), other in found)

    def test_too_many(self):
        house = (("a", 0, None),)
        self.assertEqual(len(coarser_kinds(house, column(11))), 1024)
        for rows in (12, 13, 40):
            with self.assertRaises(TooMany) as caught:
                coarser_kinds(house, column(rows))
            self.assertEqual(caught.exception.most, 2000)
            self.assertIs(is_coarser(house, column(rows)[:1], column(rows)), True)
            self.assertIs(is_coarser(house, column(rows)[1:], column(rows)), False)

    def test_lists_are_new(self):
        found = coarser_kinds(MIXED, KIND)
        found.clear()
        self.assertEqual(len(coarser_kinds(MIXED, KIND)), 4)
        kinds = all_kinds(PAIR)
        kinds.append(None)
        self.assertEqual(len(all_kinds(PAIR)), 3)


class AllKindsTest(unittest.TestCase):

    def test_against_all_tables(self):
        for house in CLOSED + ((("a", 0, 1), ("b", 0, 1), ("c", 1, 1)), (("a", 1, 4),), (("b", 2, 3), ("c", 0, 2))):
            numbers = enough_numbers(house)
            kinds = sorted({kind_of(house, table) for table in tables_with(house, numbers)})
            self.assertEqual(all_kinds(house), kinds)
            self.assertEqual(kinds_many(house), len(kinds))

    def test_open_sorts(self):
        for call in (kinds_many, all_kinds, lambda house: tables_many(house, 0, 1)):
            huge = (("a", 0, 9), ("b", 0, 9), ("c", 0, 9), ("d", 0, None), ("e", 0, None))
            for house, name in ((OPEN, "a"), (ALL_OPEN, "a"), (huge, "d")):
                with self.assertRaises(IsOpen) as caught:
                    call(house)
                self.assertEqual(caught.exception.name, name)

    def test_more_than_200_counts(self):
        just = (("a", 9, 9), ("b", 0, 9), ("c", 0, 1))
        beyond = ((("a", 0, 4), ("b", 5, 5), ("c", 6, 6)), (("a", 200, 200),))
        self.assertEqual(tables_many(just, 0, 0), 20)
        self.assertGreater(kinds_many(just), 2000)
        for house in beyond:
            for call in (kinds_many, all_kinds, lambda house: tables_many(house, 0, 1)):
                with self.assertRaises(TooMany) as caught:
                    call(house)
                self.assertEqual(caught.exception.most, 200)
        self.assertEqual(kinds_many((("a", 199, 199),)), 2 ** 198)

    def test_more_than_2000_kinds(self):
        for house, many in (((("a", 0, 1), ("b", 1, 1), ("c", 1, 2), ("d", 2, 2)), 1988), ((("a", 7, 11),), 1984)):
            self.assertEqual([kinds_many(house), len(all_kinds(house))], [many, many])
        for house, many in (((("a", 0, 1), ("b", 0, 1), ("c", 0, 1), ("d", 2, 3)), 2002), ((("a", 0, 11),), 2048)):
            self.assertEqual(kinds_many(house), many)
            with self.assertRaises(TooMany) as caught:
                all_kinds(house)
            self.assertEqual(caught.exception.most, 2000)


class TablesManyTest(unittest.TestCase):

    def test_against_all_tables(self):
        for house in CLOSED:
            for low, high in ((0, 0), (-1, 0), (5, 8)):
                found = tables_many(house, low, high)
                self.assertEqual(found, len(tables_with(house, range(low, high + 1))))

    def test_low_and_high_far_apart(self):
        wide = 2 * 10 ** 30 + 1
        self.assertEqual(tables_many(PAIR, -10 ** 30, 10 ** 30), wide ** 2)
        rows = 1 + wide + wide * (wide + 1) // 2
        self.assertEqual(tables_many(MIXED, -10 ** 30, 10 ** 30), wide * rows)
        self.assertEqual(tables_many(EMPTY, -10 ** 30, 10 ** 30), 1)

    def test_as_many_as_the_kinds_have(self):
        for house in CLOSED:
            for numbers in (1, 2, 4):
                many = 0
                for kind in all_kinds(house):
                    lots = 1
                    for taken in range(len(kind)):
                        lots = lots * (numbers - taken) // (taken + 1)
                    many += lots
                self.assertEqual(tables_many(house, 3, 2 + numbers), many)


if __name__ == "__main__":
    unittest.main()
