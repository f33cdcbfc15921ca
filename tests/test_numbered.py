"""Tests of [25]: numbered."""

import unittest

from countsfall.errors import IsOpen, TooMany
from countsfall.kinds import tables_many
from countsfall.numbered import many_fits
from countsfall.tables import fits
from tests.samples import (
    A, ALL_OPEN, B, BEST, EMPTY, FIRM, HELD, LOOSE, MIXED, OPEN, PAIR, WORST, cases_of, tables_with)

BIG = 10 ** 30
STRETCHES = ((0, 0), (1, 1), (3, 3), (-1, 1), (1, 2), (-2, 3), (2, 5), (-6, -4))


def plain_many(case, low, high):
    """Return how many of all tables with numbers from low to high fit."""
    return len([1 for table in tables_with(case[0], range(low, high + 1)) if fits(case, table)])


class ManyFitsTest(unittest.TestCase):

    def test_the_example(self):
        self.assertEqual(many_fits((PAIR, (), (("is", BEST, 5),)), 1, 9), 9)

    def test_against_all_tables(self):
        for house in (PAIR, MIXED, LOOSE, FIRM, (("a", 0, 1), ("b", 0, 0))):
            for case in cases_of(house):
                for low, high in STRETCHES:
                    self.assertEqual(many_fits(case, low, high), plain_many(case, low, high), (case, low, high))

    def test_facts_and_larger_sorts(self):
        house = (("a", 1, 3), ("b", 2, 4))
        second, third = ("rank", ("a", "b"), 3), ("rank", ("b",), 2)
        facts = ((A, B), (third, ("kth", 2, (A, second, B))))
        for answers in ((), (("is", second, 3),), (("count", ("b",), 3, 2), ("is", BEST, 4))):
            for low, high in ((3, 3), (1, 4), (2, 4)):
                case = (house, facts, answers)
                self.assertEqual(many_fits(case, low, high), plain_many(case, low, high))

    def test_as_many_as_there_are_without_facts_and_answers(self):
        for house in (PAIR, MIXED, LOOSE, FIRM, HELD, EMPTY):
            for low, high in ((5, 5), (-BIG, 60 - BIG), (BIG - 60, BIG), (-30, 30)):
                self.assertEqual(many_fits((house, (), ()), low, high), tables_many(house, low, high))

    def test_low_and_high_sixty_apart(self):
        case = (PAIR, ((A, B),), (("count", ("a", "b"), 20, 1), ("count", ("b",), 50, 0)))
        self.assertEqual(many_fits(case, 0, 60), plain_many(case, 0, 60))
        self.assertEqual(many_fits(case, 0, 60), 20 * 30)
        self.assertEqual(many_fits((PAIR, (), (("is", WORST, 0),)), -60, 0), 1)
        self.assertEqual(many_fits((PAIR, (), (("is", WORST, -60),)), -60, 0), 121)

    def test_rungs_between_below_and_above(self):
        # From 4 to 6: all rungs between them, some, none.
        between, below, above = ("is", BEST, 5), ("count", ("a",), 2, 1), ("count", ("b",), 9, 0)
        self.assertEqual(many_fits((PAIR, (), (between,)), 4, 6), 3)
        self.assertEqual(many_fits((PAIR, (), (between, below, above)), 4, 6), 3)
        self.assertEqual(many_fits((PAIR, (), (below, above)), 4, 6), 9)

    def test_answers_that_no_such_table_can_keep(self):
        for answer in (("is", BEST, 3), ("is", BEST, 7), ("count", ("a",), 3, 0), ("count", ("b",), 7, 1), ("is", A, None),
                       ("is", WORST, -BIG), ("is", WORST, BIG), ("count", ("a", "b"), -BIG, 1), ("count", ("a", "b"), BIG, 1)):
            self.assertEqual(many_fits((PAIR, (), (answer,)), 4, 6), 0, answer)
        for answer in (("count", ("a",), 4, 1), ("count", ("b",), 7, 0), ("count", ("a", "b"), -BIG, 2),
                       ("count", ("a", "b"), BIG, 0), ("is", ("rank", ("a", "b"), 3), None)):
            self.assertEqual(many_fits((PAIR, (), (answer,)), 4, 6), 9, answer)

    def test_a_table_without_rows(self):
        self.assertEqual([many_fits((EMPTY, (), ()), low, 7) for low in (7, 0)], [1, 1])
        self.assertEqual(many_fits((EMPTY, (), (("is", A, 5),)), 5, 5), 0)
        self.assertEqual(many_fits((EMPTY, (), (("is", A, None), ("count", ("a",), 5, 0))), 0, 9), 1)
        self.assertEqual(many_fits((LOOSE, (), (("is", BEST, None),)), 0, 9), 1)
        self.assertEqual(many_fits((LOOSE, (), (("count", ("a", "b"), 0, 0),)), 0, 9), 1)
        self.assertEqual(many_fits((LOOSE, (), (("count", ("a", "b"), 0, 1),)), 0, 9), 20)

    def test_answers_against_one_another(self):
        self.assertEqual(many_fits((PAIR, (), (("is", A, 5), ("is", A, 6))), 0, 9), 0)
        self.assertEqual(many_fits((PAIR, ((BEST, WORST),), (("is", A, 5), ("is", B, 6))), 0, 9), 0)


class ErrorsTest(unittest.TestCase):

    def test_open_sorts(self):
        huge = (("a", 0, 9), ("b", 0, 9), ("c", 0, 9), ("d", 0, None), ("e", 0, None))
        for house, name in ((OPEN, "a"), (ALL_OPEN, "a"), (huge, "d")):
            with self.assertRaises(IsOpen) as caught:
                many_fits((house, (), (("is", A, 5), ("is", A, 6))), 0, 3)
            self.assertEqual(caught.exception.name, name)

    def test_more_than_200_by_all_most(self):
        just = (("a", 9, 9), ("b", 0, 9), ("c", 0, 1))
        self.assertEqual(many_fits((just, (), ()), 0, 0), 20)
        self.assertEqual(many_fits((just, (), (("is", A, 0), ("count", ("a",), 0, 9))), 0, 1), 55 * 3)
        self.assertEqual(many_fits(((("a", 199, 199),), (), ()), 4, 4), 1)
        for house in ((("a", 0, 6), ("b", 0, 5), ("c", 0, 4)), (("a", 200, 200),), (("a", 1, 9), ("b", 0, 9), ("c", 0, 2))):
            # Caps by a depth of 1 would be few.
            with self.assertRaises(TooMany) as caught:
                many_fits((house, (), (("is", A, None),)), 0, 3)
            self.assertEqual(caught.exception.most, 200)


if __name__ == "__main__":
    unittest.main()
