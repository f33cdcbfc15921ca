"""Tests of [28]: what follows."""

import itertools
import unittest

from countsfall.errors import NoTable, NotSure, TooMany
from countsfall.follow import follows, least_answers, needless_answers
from countsfall.levels import rungs_of
from countsfall.sure import places_of, told
from countsfall.tables import fits, is_right
from countsfall.walks import cut_of, is_cut
from tests.samples import (
    A, ALL_OPEN, B, BEST, EMPTY, FACTS, FIRM, LOOSE, MIXED, OPEN, PAIR, TOP, WORST, cases_of, numbers_by, tables_with)

CELLS = (("a", 1, 1), ("b", 1, 1), ("c", 1, 1))
C = ("rank", ("c",), 1)
FURTHER = [("is", formula, value) for formula in (A, B, BEST, WORST, TOP) for value in (None, -3, 0, 1, 2, 4)] + [
    ("count", lot, number, many) for lot in (("a",), ("b",), ("a", "b")) for number in (-3, 0, 2, 4) for many in (0, 1, 2)]


def fitting(case, numbers, beyond=3):
    """Return all tables with these numbers that fit a case."""
    return [table for table in tables_with(case[0], numbers, beyond) if fits(case, table)]


def plain_least(case, formula):
    """Return the least lots of answers by the words of the document."""
    house, facts, answers = case
    lots = [lot for size in range(len(answers) + 1) for lot in itertools.combinations(range(len(answers)), size)]
    enough = [lot for lot in lots if told((house, facts, tuple(answers[k] for k in lot)), formula)[0] == "sure"]
    return sorted(lot for lot in enough if not any(set(other) < set(lot) for other in enough))


class FollowsTest(unittest.TestCase):

    def test_the_example(self):
        case = (CELLS, (), (("is", BEST, 5), ("is", WORST, 2), ("is", ("rank", ("b", "c"), 1), 2)))
        self.assertIs(follows(case, ("count", ("b",), 2, 1)), True)

    def test_against_all_tables(self):
        true = 0
        for house in (PAIR, MIXED, LOOSE, FIRM):
            for case in cases_of(house):
                numbers = numbers_by(rungs_of(case[2] + (("count", ("a",), -3, 0), ("count", ("a",), 4, 0))))
                tables = fitting(case, numbers)
                for answer in FURTHER if tables else ():
                    expected = all(is_right(house, table, answer) for table in tables)
                    self.assertIs(follows(case, answer), expected, (case, answer))
                    true += expected
        self.assertGreater(true, 500)

    def test_open_sorts(self):
        for case in cases_of(OPEN)[::2]:
            tables = fitting(case, numbers_by(rungs_of(case[2] + (("count", ("a",), 4, 0),))))
            for answer in [answer for answer in FURTHER if answer[0] == "is" or answer[2] != -3] if tables else ():
                expected = all(is_right(OPEN, table, answer) for table in tables)
                self.assertIs(follows(case, answer), expected, (case, answer))

    def test_is_with_an_integer_and_with_nothing(self):
        case = (LOOSE, (), (("is", BEST, None), ("count", ("a",), 5, 0)))
        self.assertEqual([follows(case, ("is", A, None)), follows(case, ("is", A, 5))], [True, False])
        case = (PAIR, (), (("is", BEST, 5), ("is", WORST, 5)))
        self.assertEqual([follows(case, ("is", A, value)) for value in (5, 4, 6, None)], [True, False, False, False])
        self.assertIs(follows((PAIR, (), ()), ("is", ("rank", ("a",), 2), None)), True)
        self.assertIs(follows((EMPTY, (), ()), ("is", A, None)), True)

    def test_counts_at_numbers_that_are_no_rungs(self):
        case = (ALL_OPEN, (), (("is", BEST, 5), ("count", ("b",), 3, 2)))
        found = [follows(case, ("count", lot, number, many)) for lot, number, many in (
            (("a", "b"), 6, 0), (("a", "b"), 10 ** 30, 0), (("b",), 4, 2), (("b",), 3, 2), (("b",), 2, 2), (("b",), 6, 1),
            (("b",), 6, 0), (("a",), 6, 0), (("a",), 5, 0))]
        self.assertEqual(found, [True, True, False, True, False, False, True, True, False])
        firm = (FIRM, (), (("is", ("rank", ("a", "b"), 3), 5),))
        found = [follows(firm, ("count", ("b",), number, 2)) for number in (-10 ** 30, 4, 5, 6)]
        self.assertEqual(found, [True, True, True, False])
        self.assertIs(follows((PAIR, (), ()), ("count", ("a", "b"), 0, 3)), False)

    def test_an_answer_of_the_case(self):
        for house in (PAIR, MIXED, ALL_OPEN):
            for case in cases_of(house):
                for answer in case[2] if cut_of(case) is None else ():
                    self.assertIs(follows(case, answer), True)


class NeedlessTest(unittest.TestCase):

    def test_each_follows_from_the_others(self):
        some = 0
        for house in (PAIR, MIXED, LOOSE, FIRM, OPEN, ALL_OPEN):
            for case in self.longer_cases(house):
                if cut_of(case) is None:
                    _, facts, answers = case
                    expected = [k for k, answer in enumerate(answers)
                                if follows((house, facts, answers[:k] + answers[k + 1:]), answer)]
                    self.assertEqual(needless_answers(case), expected, case)
                    some += expected != [] and len(expected) < len(answers)
        self.assertGreater(some, 20)

    def longer_cases(self, house):
        lists = [case[2] for case in cases_of(house)[:11]]
        return [(house, facts, one + other) for facts in FACTS for one, other in itertools.product(lists, lists)]

    def test_against_all_tables(self):
        for case in self.longer_cases(MIXED)[::4]:
            house, facts, answers = case
            if cut_of(case) is None:
                tables = [table for table in tables_with(house, numbers_by(rungs_of(answers))) if fits((house, facts, ()), table)]
                right = [[is_right(house, table, answer) for answer in answers] for table in tables]
                expected = [k for k in range(len(answers)) if all(row[k] for row in right if all(row[:k] + row[k + 1:]))]
                self.assertEqual(needless_answers(case), expected)

    def test_equal_answers_are_both_needless(self):
        twice = ("is", BEST, 5)
        self.assertEqual(needless_answers((PAIR, (), (twice, twice))), [0, 1])
        self.assertEqual(needless_answers((PAIR, (), (twice, ("is", WORST, 2), twice))), [0, 2])
        self.assertEqual(needless_answers((PAIR, (), (("is", A, 5), ("is", B, 5), twice, ("count", ("a", "b"), 6, 0)))), [2, 3])

    def test_none_and_no_answers(self):
        self.assertEqual(needless_answers((PAIR, (), ())), [])
        self.assertEqual(needless_answers((PAIR, (), (("is", BEST, 5), ("is", A, 5)))), [])
        self.assertEqual(needless_answers((PAIR, (), (("is", ("rank", ("a",), 2), None),))), [0])
        self.assertEqual(needless_answers((PAIR, ((BEST, WORST),), (("is", A, 5), ("is", B, 5)))), [0, 1])

    def test_lists_are_new(self):
        case = (PAIR, (), (("is", BEST, 5), ("is", BEST, 5)))
        found = needless_answers(case)
        found.clear()
        self.assertEqual(needless_answers(case), [0, 1])


class LeastTest(unittest.TestCase):

    def test_the_example(self):
        case = (CELLS, (), (("is", BEST, 5), ("is", WORST, 2), ("is", ("rank", ("b", "c"), 1), 2)))
        self.assertEqual(least_answers(case, A), [(0, 2)])

    def test_against_all_lots(self):
        several = 0
        for house in (PAIR, MIXED, OPEN):
            lists = [case[2] for case in cases_of(house)[:11]]
            for facts in FACTS:
                for one, other in itertools.combinations_with_replacement(lists, 2):
                    case = (house, facts, one + other)
                    for formula in (A, B, BEST, WORST) if cut_of(case) is None else ():
                        several += self.check_least(case, formula)
        self.assertGreater(several, 20)

    def check_least(self, case, formula):
        if told(case, formula)[0] == "open":
            with self.assertRaises(NotSure) as caught:
                least_answers(case, formula)
            self.assertEqual(caught.exception.places, places_of(case, formula))
            return False
        found = least_answers(case, formula)
        self.assertEqual(found, plain_least(case, formula), (case, formula))
        return len(found) > 1

    def test_six_answers(self):
        answers = (("is", BEST, 5), ("is", WORST, 2), ("is", ("rank", ("b", "c"), 1), 2), ("count", ("a",), 5, 1),
                   ("count", ("a",), 6, 0), ("is", ("rank", ("a", "c"), 1), 5))
        case = (CELLS, ((C, B),), answers)
        self.assertEqual(least_answers(case, A), plain_least(case, A))
        self.assertEqual(least_answers(case, A), [(0, 2), (0, 3), (2, 5), (3, 4), (3, 5)])
        self.assertEqual(least_answers((CELLS, (), answers[:1] * 6), BEST), [(0,), (1,), (2,), (3,), (4,), (5,)])

    def test_the_empty_lot(self):
        self.assertEqual(least_answers((PAIR, (), ()), ("rank", ("a",), 2)), [()])
        self.assertEqual(least_answers((PAIR, (), (("is", A, 5), ("is", B, 5))), ("rank", ("a", "b"), 3)), [()])
        self.assertEqual(least_answers((LOOSE, ((A, ("rank", ("b",), 2)),), (("is", B, 5),)), A), [()])

    def test_facts_are_always_there(self):
        answers = (("is", A, 5), ("is", BEST, 5), ("is", WORST, 5))
        self.assertEqual(least_answers((PAIR, (), answers), B), [(1, 2)])
        self.assertEqual(least_answers((PAIR, ((BEST, WORST),), answers), B), [(0,), (1,), (2,)])

    def test_not_sure(self):
        case = (PAIR, (), (("is", BEST, 5),))
        with self.assertRaises(NotSure) as caught:
            least_answers(case, A)
        self.assertEqual(caught.exception.places, [("gap", None, 5), ("rung", 5)])

    def test_lists_are_new(self):
        case = (PAIR, (), (("is", A, 5),))
        found = least_answers(case, A)
        found.clear()
        self.assertEqual(least_answers(case, A), [(0,)])


class ErrorsTest(unittest.TestCase):

    def test_seven_answers_ahead_of_all_else(self):
        three = (("a", 0, None), ("b", 0, None), ("c", 0, None))
        deep = ("rank", ("c",), 5)
        for answers in ((("is", A, 5),) * 7, (("is", A, 5), ("is", A, 6)) * 4, (("count", ("b",), 1, 4),) * 7):
            with self.assertRaises(TooMany) as caught:
                least_answers((three, (), answers), deep)
            self.assertEqual(caught.exception.most, 6)
        self.assertEqual(needless_answers((three, (), (("is", A, 5),) * 7)), list(range(7)))

    def test_too_many_ahead_of_no_table(self):
        three = (("a", 0, None), ("b", 0, None), ("c", 0, None))
        none, deep = (("is", A, 5), ("is", A, 6)), ("rank", ("c",), 5)
        counted = ("count", ("b",), 1, 4)
        calls = [
            lambda: follows((three, (), none), ("is", deep, None)), lambda: follows((three, (), none), counted),
            lambda: follows((three, ((A, deep),), none), ("is", A, 5)), lambda: needless_answers((three, ((deep, A),), none)),
            lambda: needless_answers((three, (), none + (counted,))), lambda: least_answers((three, (), none), deep),
            lambda: least_answers((three, ((deep, A),), none), A), lambda: least_answers((three, (), ()), deep)]
        for call in calls:
            with self.assertRaises(TooMany) as caught:
                call()
            self.assertEqual(caught.exception.most, 200)
        self.assertIs(follows((three, (), ()), ("count", ("a",), 1, 3)), False)

    def test_no_table_ahead_of_not_sure(self):
        case = (ALL_OPEN, (), (("is", A, 5), ("is", A, 6)))
        deep = ("rank", ("a",), 9)
        for call in (lambda: follows(case, ("is", deep, 3)), lambda: follows(case, ("count", ("a",), 3, 4)),
                     lambda: needless_answers(case), lambda: least_answers(case, B), lambda: least_answers(case, deep)):
            with self.assertRaises(NoTable) as caught:
                call()
            self.assertIs(is_cut(case, caught.exception.cut), True)
            self.assertEqual(caught.exception.cut, cut_of(case))


if __name__ == "__main__":
    unittest.main()
