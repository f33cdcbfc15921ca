"""Tests of [39], and of [6] and [7]: what the answer to a further ask would tell."""

import itertools
import unittest

from countsfall.errors import NoTable, NoValue, TooMany
from countsfall.forms import is_case
from countsfall.further import behind, branches, next_asks, settling
from countsfall.levels import rungs_of
from countsfall.sure import told
from countsfall.walks import is_cut
from tests.samples import (
    A, ALL_OPEN, B, BEST, FIRM, LOOSE, MIXED, OPEN, PAIR, TOP, WORST, cases_of, far_numbers, fitting_tables, place_by,
    plain_places, values_by)

BIG = 10 ** 30
NEVER = ("rank", ("b",), 4)
ASKS = (A, BEST, WORST, TOP, ("rank", ("b",), 2), NEVER)
FORMULAS = (A, B, WORST, ("kth", 2, (BEST, B, A)), NEVER)
# With no integer, with just one and with two between the rungs 2 and 3, 2 and 4, 2 and 5.
GAPS = tuple((house, (), (("is", BEST, high), ("count", ("b",), 2, 1))) for house in (PAIR, MIXED, LOOSE) for high in (3, 4, 5))
THREE = (("a", 0, None), ("b", 0, None), ("c", 0, None))
DEEP = ("rank", ("c",), 5)
BAD = (PAIR, (), (("is", BEST, 3), ("is", A, 5)))


def all_cases():
    """Return cases that some table fits, each with all small tables that fit it."""
    found = []
    for house in (PAIR, MIXED, LOOSE, FIRM):
        for case in cases_of(house)[::1 if house == PAIR else 3] + [case for case in GAPS if case[0] == house]:
            tables = fitting_tables(case)
            if tables:
                found.append((case, tables))
    return found


CASES = all_cases()


def plain_branches(case, values):
    """Return the branches of an ask that has these values, by the words of the document."""
    rungs = rungs_of(case[2])
    found = []
    for place in plain_places(rungs):
        if any(place_by(rungs, value) == place for value in values):
            if place[0] == "gap":
                low, high = place[1:]
                found.append((place, low + 1 if low is not None else high - 1 if high is not None else 0))
            else:
                found.append((place, None if place == ("none",) else place[1]))
    return found


class FurtherCase(unittest.TestCase):

    def check_no_table(self, case, call, *arguments):
        with self.assertRaises(NoTable) as caught:
            call(case, *arguments)
        self.assertIs(is_cut(case, caught.exception.cut), True)

    def check_too_many(self, call, *arguments):
        with self.assertRaises(TooMany) as caught:
            call(*arguments)
        self.assertEqual(caught.exception.most, 200)


class BranchesTest(FurtherCase):

    def test_the_examples(self):
        case = (PAIR, (), (("is", BEST, 5),))
        self.assertEqual(branches(case, WORST), [(("gap", None, 5), 4), (("rung", 5), 5)])
        self.assertEqual(next_asks(case, (WORST, B), A), ((), (0, 1)))

    def test_against_all_tables(self):
        kinds = set()
        for case, tables in CASES:
            for ask in ASKS:
                found = branches(case, ask)
                self.assertEqual(found, plain_branches(case, values_by(tables, case[0], ask, ask)), (case, ask))
                self.assertIsInstance(found, list)
                kinds |= {(place[0],) + tuple(bound is None for bound in place[1:]) for place, _ in found}
        self.assertEqual(kinds, {("none",), ("rung", False), ("gap", True, True), ("gap", True, False), ("gap", False, True),
                                 ("gap", False, False)})

    def test_the_integer_of_a_gap(self):
        self.assertEqual(branches((PAIR, (), ()), A), [(("gap", None, None), 0)])
        self.assertEqual(branches((LOOSE, (), ()), A), [(("none",), None), (("gap", None, None), 0)])
        case = (PAIR, (), (("is", BEST, 9), ("is", WORST, 7)))
        self.assertEqual(branches(case, A), [(("rung", 7), 7), (("rung", 9), 9)])
        case = (MIXED, (), (("is", ("rank", ("a", "b"), 1), BIG), ("count", ("b",), -BIG, 0)))
        self.assertEqual(branches(case, B), [(("none",), None), (("gap", None, -BIG - 1), -BIG - 2), (("rung", -BIG - 1), -BIG - 1)])
        case = (MIXED, (), (("is", A, 4), ("is", NEVER, None), ("is", ("rank", ("b",), 1), 8)))
        self.assertEqual(branches(case, ("rank", ("b",), 2)), [
            (("none",), None), (("gap", None, 4), 3), (("rung", 4), 4), (("gap", 4, 8), 5), (("rung", 8), 8)])
        case = (OPEN, (), (("count", ("b",), 6, 0),))
        self.assertEqual(branches(case, A)[-1], (("gap", 6, None), 7))

    def test_open_sorts(self):
        for house in (OPEN, ALL_OPEN):
            for case in ((house, (), ()), (house, ((A, B),), (("is", BEST, 2),)), (house, (), (("count", ("a",), 1, 1),))):
                tables = fitting_tables(case)
                for ask in (A, BEST, ("rank", ("a", "b"), 2)):
                    self.assertEqual(branches(case, ask), plain_branches(case, values_by(tables, house, ask, ask)), (case, ask))


class BehindTest(FurtherCase):

    def test_against_all_tables(self):
        refused = 0
        for case, tables in CASES:
            for ask in ASKS:
                values = values_by(tables, case[0], ask, ask)
                numbers = [number for place, number in branches(case, ask)]
                for value in numbers + [None] + far_numbers(case):
                    if value in values:
                        found = behind(case, ask, value)
                        self.assertEqual(found, (case[0], case[1], case[2] + (("is", ask, value),)))
                        self.assertIs(is_case(found), True)
                    else:
                        self.check_no_value(case, ask, value)
                        refused += 1
        self.assertGreater(refused, 500)

    def check_no_value(self, case, ask, value):
        with self.assertRaises(NoValue) as caught:
            behind(case, ask, value)
        self.assertIs(caught.exception.value, value)

    def test_any_integer_of_a_gap(self):
        case = (PAIR, (), (("is", BEST, 5),))
        for value in (5, 4, 3, -7, -BIG):
            self.assertEqual(behind(case, WORST, value)[2][-1], ("is", WORST, value))
        for value in (6, BIG, None):
            self.check_no_value(case, WORST, value)
        self.check_no_value(case, BEST, 4)
        self.check_no_value(case, NEVER, 4)
        self.assertEqual(behind(case, NEVER, None)[2], case[2] + (("is", NEVER, None),))
        big = 10 ** 39
        self.assertEqual(behind((PAIR, (), ()), A, big), (PAIR, (), (("is", A, big),)))
        self.check_no_value(case, A, big)

    def test_no_table_ahead_of_no_value(self):
        for value in (None, 3, 99):
            self.check_no_table(BAD, behind, A, value)
            self.check_no_table(BAD, behind, NEVER, value)

    def test_too_many_ahead_of_all(self):
        bad = (THREE, (), (("is", A, 5), ("is", A, 4)))
        for value in (None, 4, 99):
            self.check_too_many(behind, bad, DEEP, value)
            self.check_no_table(bad, behind, B, value)


class SettlingTest(FurtherCase):

    def check(self, case, tables, ask, formula):
        values = values_by(tables, case[0], ask, formula)
        expected = [branch for branch in branches(case, ask) if len(values[branch[1]]) == 1]
        self.assertEqual(settling(case, ask, formula), expected, (case, ask, formula))
        for place, value in expected:
            self.assertEqual(told(behind(case, ask, value), formula), ("sure", list(values[value])[0]))
        return len(expected), len(branches(case, ask))

    def test_against_all_tables(self):
        seen = {"all": 0, "some": 0, "none": 0}
        for case, tables in CASES:
            for ask, formula in itertools.product(ASKS, FORMULAS):
                found, many = self.check(case, tables, ask, formula)
                seen["all" if found == many else "some" if found > 0 else "none"] += 1
        self.assertGreater(min(seen.values()), 40)

    def test_open_sorts(self):
        for house in (OPEN, ALL_OPEN):
            for case in ((house, (), ()), (house, ((A, B),), (("is", BEST, 2),))):
                tables = fitting_tables(case)
                for ask, formula in itertools.product((A, BEST, WORST), (A, B, WORST)):
                    self.check(case, tables, ask, formula)

    def test_all_integers_of_a_gap_or_none(self):
        for case, tables in CASES[::2]:
            rungs, numbers = rungs_of(case[2]), far_numbers(case)
            for ask, formula in itertools.product(ASKS, FORMULAS):
                settled = [place for place, _ in settling(case, ask, formula)]
                for value, beside in values_by(tables, case[0], ask, formula).items():
                    # At both ends of the numbers of these tables, a value beside it would have been missed.
                    if value is None or numbers[1] < value < numbers[-2]:
                        self.assertIs(place_by(rungs, value) in settled, len(beside) == 1, (case, ask, formula, value))

    def test_an_ask_that_is_the_formula(self):
        for case, _ in CASES[::3]:
            for ask in ASKS:
                self.assertEqual(settling(case, ask, ask), branches(case, ask))

    def test_a_formula_that_is_sure(self):
        case = (PAIR, (), (("is", A, 5),))
        self.assertEqual(settling(case, B, A), branches(case, B))
        self.assertEqual(settling(case, B, NEVER), branches(case, B))

    def test_no_table_ahead_of_what_the_formula_asks(self):
        self.check_no_table(BAD, settling, A, B)
        self.check_no_table((THREE, (), (("is", A, 5), ("is", A, 4))), settling, B, DEEP)
        self.check_no_table((THREE, (), (("is", A, 5), ("is", A, 4))), next_asks, (B,), DEEP)

    def test_too_many(self):
        good, bad = (THREE, (), ()), (THREE, (), (("is", A, 5), ("is", A, 4)))
        for call in (branches, behind, settling):
            rest = () if call is branches else (0,) if call is behind else (A,)
            self.check_too_many(call, good, DEEP, *rest)
            self.check_too_many(call, bad, DEEP, *rest)
        self.check_too_many(settling, good, A, DEEP)
        # Behind the ask the case itself has too many counts.
        case = (THREE, (), (("is", DEEP, 5),))
        self.check_too_many(branches, case, A)
        just = ((("a", 0, 9), ("b", 0, 9), ("c", 0, 1)), (), ())
        self.assertEqual(len(settling(just, ("rank", ("a", "b"), 9), ("rank", ("a", "b"), 9))), 2)


class NextAsksTest(FurtherCase):

    def test_against_the_words(self):
        seen = set()
        for case, _ in CASES[::2]:
            for formula in FORMULAS:
                settled = [len(settling(case, ask, formula)) for ask in ASKS]
                all_of = tuple(k for k, ask in enumerate(ASKS) if settled[k] == len(branches(case, ask)))
                some_of = tuple(k for k, many in enumerate(settled) if many > 0)
                self.assertEqual(next_asks(case, ASKS, formula), (all_of, some_of))
                seen |= {all_of == (), some_of == (), all_of == some_of}
        self.assertEqual(seen, {True, False})

    def test_no_asks_and_asks_that_stand_twice(self):
        case = (PAIR, (), (("is", BEST, 5),))
        self.assertEqual([next_asks(case, (), A), next_asks(case, (A, B, A), A)], [((), ()), ((0, 2), (0, 1, 2))])

    def test_errors_ask_by_ask(self):
        good, bad = (THREE, (), ()), (THREE, (), (("is", A, 5), ("is", A, 4)))
        self.check_too_many(next_asks, good, (A, B, DEEP), A)
        self.check_no_table(bad, next_asks, (A, DEEP), B)
        self.check_too_many(next_asks, bad, (DEEP, A), B)
        self.check_no_table(BAD, next_asks, (A,), B)

    def test_lists_are_new(self):
        case = (PAIR, (), (("is", BEST, 5),))
        for call, arguments in ((branches, (case, WORST)), (settling, (case, WORST, A))):
            found = call(*arguments)
            expected = list(found)
            found.clear()
            self.assertEqual(call(*arguments), expected)


if __name__ == "__main__":
    unittest.main()
