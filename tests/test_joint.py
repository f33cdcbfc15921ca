"""Tests of [27]: two formulas together, and further facts."""

import itertools
import unittest

from countsfall.errors import NoTable, TooMany
from countsfall.forms import is_table
from countsfall.joint import breaking_table, is_kept, joint_places
from countsfall.levels import rungs_of
from countsfall.sure import places_of
from countsfall.tables import fits, keeps, value_of
from countsfall.walks import cut_of, is_cut
from tests.samples import (
    A, ALL_OPEN, B, BEST, EMPTY, FIRM, LOOSE, MIXED, OPEN, PAIR, TOP, WORST, cases_of, numbers_by, place_by, plain_places,
    tables_with)

CELLS = (("a", 1, 1), ("b", 1, 1), ("c", 1, 1))
FORMULAS = (A, B, BEST, WORST, TOP, ("rank", ("b",), 2), ("kth", 2, (A, B, ("rank", ("a", "b"), 3))))
COUPLES = list(itertools.product(FORMULAS, FORMULAS))


def fitting(case, numbers, beyond):
    """Return all tables with these numbers that fit a case."""
    return [table for table in tables_with(case[0], numbers, beyond) if fits(case, table)]


def two_in_each_gap(rungs):
    """Return the ascending list of the rungs and two integers of each gap, where it has two."""
    if not rungs:
        return [0, 1]
    between = [number for low, high in zip(rungs, rungs[1:]) for number in (low + 1, high - 1) if low < number < high]
    return sorted(set([rungs[0] - 2, rungs[0] - 1] + rungs + between + [rungs[-1] + 1, rungs[-1] + 3]))


class JointPlacesTest(unittest.TestCase):

    def test_the_example(self):
        case = (CELLS, (), (("is", BEST, 5), ("is", WORST, 2)))
        self.assertEqual(joint_places(case, A, B), [(("rung", 2), ("rung", 5)), (("rung", 5), ("rung", 2))])

    def test_against_all_tables(self):
        for house, beyond in ((PAIR, 0), (MIXED, 0), (LOOSE, 0), (FIRM, 0), (OPEN, 3)):
            for case in cases_of(house)[::1 if beyond == 0 else 2]:
                rungs = rungs_of(case[2])
                tables = fitting(case, numbers_by(rungs), beyond)
                if tables:
                    self.check_couples(case, rungs, tables)

    def check_couples(self, case, rungs, tables):
        places = plain_places(rungs)
        lies = [{formula: place_by(rungs, value_of(case[0], table, formula)) for formula in FORMULAS} for table in tables]
        for one, other in COUPLES:
            found = {(there[one], there[other]) for there in lies}
            expected = [couple for couple in itertools.product(places, places) if couple in found]
            self.assertEqual(joint_places(case, one, other), expected, (case, one, other))

    def test_two_numbers_in_a_gap_make_no_further_couples(self):
        for house in (PAIR, MIXED):
            for case in cases_of(house):
                rungs = rungs_of(case[2])
                tables = fitting(case, two_in_each_gap(rungs), 0)
                if tables:
                    self.check_couples(case, rungs, tables)

    def test_a_formula_with_itself(self):
        for house in (PAIR, MIXED, ALL_OPEN):
            for case in cases_of(house):
                if cut_of(case) is None:
                    for formula in FORMULAS:
                        expected = [(place, place) for place in places_of(case, formula)]
                        self.assertEqual(joint_places(case, formula, formula), expected)

    def test_the_order_of_the_couples(self):
        low, high = ("gap", None, 5), ("gap", 5, None)
        case = (CELLS, (), (("is", ("rank", ("c",), 1), 5),))
        self.assertEqual(joint_places(case, A, B), list(itertools.product([low, ("rung", 5), high], repeat=2)))
        case = (LOOSE, (), (("is", ("rank", ("a",), 2), 5),))
        self.assertEqual(joint_places(case, B, A), list(itertools.product(
            [("none",), low, ("rung", 5), high], [("rung", 5), high])))
        found = joint_places((PAIR, (), (("is", WORST, 1), ("is", BEST, 9))), A, B)
        self.assertEqual(found, [(("rung", 1), ("rung", 9)), (("rung", 9), ("rung", 1))])

    def test_places_that_do_not_lie_together(self):
        case = (PAIR, (), (("is", BEST, 5),))
        rung, low = ("rung", 5), ("gap", None, 5)
        self.assertEqual(joint_places(case, A, B), [(low, rung), (rung, low), (rung, rung)])
        self.assertEqual(joint_places((PAIR, ((A, B),), case[2]), A, B), [(low, rung), (rung, rung)])
        self.assertEqual(joint_places((PAIR, (), ()), A, B), [(("gap", None, None), ("gap", None, None))])
        self.assertEqual(joint_places((EMPTY, (), ()), A, A), [(("none",), ("none",))])

    def test_lists_are_new(self):
        case = (PAIR, (), (("is", BEST, 5),))
        found = joint_places(case, A, B)
        found.clear()
        self.assertEqual(len(joint_places(case, A, B)), 3)


class FactTest(unittest.TestCase):

    def test_the_example(self):
        c = ("rank", ("c",), 1)
        case = (CELLS, (), (("is", BEST, 5), ("is", WORST, 2), ("is", ("rank", ("b", "c"), 1), 2)))
        self.assertIs(is_kept(case, (c, B)), True)

    def test_against_all_tables(self):
        kept = 0
        for house, beyond in ((PAIR, 0), (MIXED, 0), (LOOSE, 0), (FIRM, 0), (OPEN, 3)):
            for case in cases_of(house)[::1 if beyond == 0 else 4]:
                tables = fitting(case, two_in_each_gap(rungs_of(case[2])), beyond)
                for fact in COUPLES if tables else ():
                    expected = all(keeps(house, table, (fact,)) for table in tables)
                    self.assertIs(is_kept(case, fact), expected, (case, fact))
                    self.check_breaking(case, fact, expected)
                    kept += expected
        self.assertGreater(kept, 500)

    def check_breaking(self, case, fact, expected):
        table = breaking_table(case, fact)
        self.assertIs(table is None, expected)
        if table is not None:
            self.assertIs(is_table(case[0], table), True)
            self.assertIs(fits(case, table), True)
            self.assertIs(keeps(case[0], table, (fact,)), False)
            self.assertEqual(list(table), sorted(table))

    def test_open_and_full_sorts(self):
        for house in (ALL_OPEN, (("a", 3, 4), ("b", 2, None)), (("a", 6, 6), ("b", 6, None))):
            for case in cases_of(house):
                for fact in COUPLES if cut_of(case) is None else ():
                    self.check_breaking(case, fact, is_kept(case, fact))

    def test_a_fact_of_the_case_and_such_that_follow(self):
        case = (ALL_OPEN, ((A, B), (WORST, A)), ())
        for fact in case[1] + ((WORST, B), (A, A), (B, BEST), (WORST, BEST)):
            self.assertIs(is_kept(case, fact), True)
            self.assertIsNone(breaking_table(case, fact))
        self.assertIs(is_kept(case, (B, A)), False)
        self.assertIs(is_kept((ALL_OPEN, (), ()), (A, B)), False)

    def test_nothing_is_less_than_all(self):
        case = (LOOSE, (), (("is", A, None),))
        self.assertEqual([is_kept(case, (A, B)), is_kept(case, (B, A))], [True, False])
        self.assertEqual(breaking_table(case, (B, A))["a"], ())
        self.assertIs(is_kept((PAIR, (), ()), (("rank", ("a",), 2), B)), True)
        table = breaking_table((PAIR, (), ()), (B, ("rank", ("a",), 2)))
        self.assertEqual([len(table["a"]), len(table["b"])], [1, 1])

    def test_far_beyond_the_rungs(self):
        big = 10 ** 30
        for answers in ((("is", BEST, big),), (("is", WORST, -big),), (("count", ("a", "b"), -big, 0),)):
            self.check_breaking((PAIR, (), answers), (A, B), False)
        self.check_breaking((PAIR, (), (("is", BEST, big), ("is", WORST, -big))), (A, B), False)

    def test_tables_are_new(self):
        case = (PAIR, (), (("is", BEST, 5),))
        found = breaking_table(case, (A, B))
        expected = dict(found)
        found.clear()
        self.assertEqual(breaking_table(case, (A, B)), expected)


class ErrorsTest(unittest.TestCase):

    def calls(self, case, one, other):
        return [lambda: joint_places(case, one, other), lambda: is_kept(case, (one, other)),
                lambda: breaking_table(case, (one, other))]

    def test_too_many_ahead_of_no_table(self):
        three = (("a", 0, None), ("b", 0, None), ("c", 0, None))
        none, deep = (three, (), (("is", A, 5), ("is", A, 6))), ("rank", ("c",), 5)
        for case, one, other in ((none, deep, A), (none, A, deep), ((three, ((A, deep),), none[2]), A, B),
                                 ((three, (), (("count", ("b",), 1, 4),)), A, B), ((three, (), ()), A, deep)):
            for call in self.calls(case, one, other):
                with self.assertRaises(TooMany) as caught:
                    call()
                self.assertEqual(caught.exception.most, 200)

    def test_just_200_counts(self):
        just = (("a", 0, 9), ("b", 0, 9), ("c", 0, 1))
        one, other = ("rank", ("a",), 9), ("rank", ("a", "b"), 9)
        self.assertEqual([is_kept((just, (), ()), (one, other)), is_kept((just, (), ()), (other, one))], [True, False])

    def test_no_table(self):
        case = (ALL_OPEN, (), (("is", A, 5), ("is", A, 6)))
        for call in self.calls(case, ("rank", ("a",), 9), B):
            with self.assertRaises(NoTable) as caught:
                call()
            self.assertIs(is_cut(case, caught.exception.cut), True)


if __name__ == "__main__":
    unittest.main()
