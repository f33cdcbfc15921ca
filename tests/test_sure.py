"""Tests of [26], of [7], and of "Stage 5" in [4]: what is sure, and what is possible."""

import unittest

from countsfall.errors import NoTable, NoValue, TooMany
from countsfall.forms import is_table
from countsfall.levels import rungs_of
from countsfall.sure import places_of, table_with, told
from countsfall.tables import fits, value_of
from countsfall.walks import cut_of, is_cut
from tests.samples import (
    A, ALL_OPEN, B, BEST, EMPTY, FIRM, HELD, LOOSE, MIXED, OPEN, PAIR, TOP, WORST, cases_of, numbers_by, place_by,
    plain_places, tables_with)

BIG = 10 ** 30
FORMULAS = (A, B, BEST, WORST, TOP, ("rank", ("b",), 2), ("rank", ("a", "b"), 3), ("kth", 2, (A, B, ("kth", 1, (B, WORST)))))
CELLS = (("a", 1, 1), ("b", 1, 1), ("c", 1, 1))


def fitting(case, numbers, beyond=2):
    """Return all tables with these numbers that fit a case."""
    return [table for table in tables_with(case[0], numbers, beyond) if fits(case, table)]


def values_in(place):
    """Return some values that lie in a place, those at its ends among them."""
    if place[0] != "gap":
        return [None if place[0] == "none" else place[1]]
    _, low, high = place
    if low is None:
        return [-BIG, BIG if high is None else high - 1]
    return [low + 1, BIG if high is None else high - 1]


class PlacesTest(unittest.TestCase):

    def test_the_examples(self):
        case = (CELLS, (), (("is", BEST, 5), ("is", WORST, 2), ("is", ("rank", ("b", "c"), 1), 2)))
        self.assertEqual(told(case, A), ("sure", 5))
        self.assertEqual(places_of(case, ("rank", ("c",), 1)), [("gap", None, 2), ("rung", 2)])

    def test_against_all_tables(self):
        for house, beyond in ((PAIR, 0), (MIXED, 0), (LOOSE, 0), (FIRM, 0), (OPEN, 3)):
            for case in cases_of(house):
                rungs = rungs_of(case[2])
                tables = fitting(case, numbers_by(rungs), beyond)
                for formula in FORMULAS:
                    if not tables:
                        self.check_no_table(case, formula)
                        continue
                    found = {place_by(rungs, value_of(house, table, formula)) for table in tables}
                    expected = [place for place in plain_places(rungs) if place in found]
                    self.assertEqual(places_of(case, formula), expected, (case, formula))
                    self.check_told(case, formula, expected)

    def check_no_table(self, case, formula):
        for call in (places_of, told, lambda *both: table_with(*both, 5)):
            with self.assertRaises(NoTable) as caught:
                call(case, formula)
            self.assertIs(is_cut(case, caught.exception.cut), True)

    def check_told(self, case, formula, places):
        if len(places) == 1 and places[0][0] != "gap":
            value = None if places[0] == ("none",) else places[0][1]
            self.assertEqual(told(case, formula), ("sure", value))
        else:
            self.assertEqual(told(case, formula), ("open", places))

    def test_all_integers_of_a_gap_or_none(self):
        for house in (PAIR, MIXED, OPEN, ALL_OPEN):
            for case in cases_of(house)[1::5] + cases_of(house)[:1]:
                if cut_of(case) is not None:
                    continue
                for formula in FORMULAS:
                    possible = places_of(case, formula)
                    for place in plain_places(rungs_of(case[2])):
                        for value in values_in(place):
                            self.check_table_with(case, formula, value, place in possible)

    def check_table_with(self, case, formula, value, possible):
        if possible:
            table = table_with(case, formula, value)
            self.assertIs(is_table(case[0], table), True)
            self.assertIs(fits(case, table), True)
            self.assertEqual(value_of(case[0], table, formula), value)
            self.assertEqual(list(table), sorted(table))
        else:
            with self.assertRaises(NoValue) as caught:
                table_with(case, formula, value)
            self.assertEqual(caught.exception.value, value)

    def test_a_gap_of_one_integer_and_none(self):
        case = (PAIR, (), (("is", BEST, 5), ("is", ("kth", 1, (WORST, WORST)), 3)))
        self.assertEqual(places_of(case, A), [("rung", 3), ("rung", 5)])
        free = (CELLS, (), case[2])
        self.assertEqual(places_of(free, ("rank", ("c",), 1)), [
            ("gap", None, 3), ("rung", 3), ("gap", 3, 5), ("rung", 5), ("gap", 5, None)])
        self.assertEqual(table_with(free, ("rank", ("c",), 1), 4)["c"], (4,))
        close = (CELLS, (), (("is", BEST, 4), ("is", WORST, 3)))
        self.assertEqual(places_of(close, ("rank", ("c",), 1)), [("gap", None, 3), ("rung", 3), ("rung", 4), ("gap", 4, None)])
        counted = (PAIR, (), (("count", ("a", "b"), 7, 1),))
        self.assertEqual(places_of(counted, BEST), [("rung", 7), ("gap", 7, None)])
        self.assertEqual(places_of(counted, WORST), [("gap", None, 6), ("rung", 6)])

    def test_no_rungs(self):
        self.assertEqual(places_of((PAIR, (), ()), A), [("gap", None, None)])
        self.assertEqual(places_of((LOOSE, (), ()), A), [("none",), ("gap", None, None)])
        self.assertEqual(places_of((EMPTY, (), ()), A), [("none",)])
        self.assertEqual(told((PAIR, (), ()), A), ("open", [("gap", None, None)]))
        self.assertEqual(told((EMPTY, (), ()), A), ("sure", None))

    def test_nothing_among_several_and_alone(self):
        self.assertEqual(places_of((LOOSE, (), (("is", A, 5),)), B), [
            ("none",), ("gap", None, 5), ("rung", 5), ("gap", 5, None)])
        self.assertEqual(told((LOOSE, (), (("is", BEST, None),)), A), ("sure", None))
        self.assertEqual(told((LOOSE, ((B, ("rank", ("a",), 3)),), (("is", A, 5),)), B), ("sure", None))
        self.assertEqual(told((PAIR, (), ()), ("rank", ("a",), 2)), ("sure", None))
        self.assertEqual(places_of((OPEN, (), (("is", A, None),)), BEST), [("gap", None, None)])

    def test_facts_make_sure(self):
        case = (PAIR, ((A, B),), (("is", BEST, 5),))
        self.assertEqual([told(case, B), told(case, A)], [("sure", 5), ("open", [("gap", None, 5), ("rung", 5)])])
        case = (PAIR, ((BEST, WORST),), (("is", A, 5),))
        self.assertEqual(told(case, B), ("sure", 5))

    def test_sure_is_a_rung_or_nothing(self):
        seen = set()
        for house in (PAIR, MIXED, LOOSE, FIRM, OPEN, ALL_OPEN, HELD[:1]):
            cases = cases_of(house) if house[0][0] == "a" else [(house, (), (("is", B, 3), ("is", ("rank", ("b",), 2), 3)))]
            for case in cases:
                if cut_of(case) is None:
                    for formula in FORMULAS if house[0][0] == "a" else [B, ("rank", ("b",), 3)]:
                        kind, found = told(case, formula)
                        seen.add((kind, found is None))
                        if kind == "sure" and found is not None:
                            self.assertIn(found, rungs_of(case[2]))
                        elif kind == "open" and len(found) == 1:
                            # A gap between rungs, or beside one, is never left alone.
                            self.assertEqual(found, [("gap", None, None)])
        self.assertEqual(seen, {("sure", True), ("sure", False), ("open", False)})

    def test_beyond_the_rungs(self):
        case = (PAIR, (), (("is", BEST, 5),))
        self.assertEqual(table_with(case, A, -BIG), {"a": (-BIG,), "b": (5,)})
        self.assertEqual(table_with(case, A, 5)["a"], (5,))
        for value in (6, BIG, None):
            self.check_table_with(case, A, value, False)
        self.check_table_with((LOOSE, (), ()), A, BIG, True)
        self.check_table_with((LOOSE, (), ()), A, None, True)

    def test_lists_are_new(self):
        case = (PAIR, (), (("is", BEST, 5),))
        found, opened, table = places_of(case, A), told(case, A), table_with(case, A, 5)
        found.append(None)
        opened[1].append(None)
        table.clear()
        self.assertEqual([places_of(case, A), told(case, A)[1]], [[("gap", None, 5), ("rung", 5)]] * 2)
        self.assertEqual(table_with(case, A, 5)["a"], (5,))


class ErrorsTest(unittest.TestCase):

    def calls(self, case, formula):
        return [lambda: places_of(case, formula), lambda: told(case, formula), lambda: table_with(case, formula, None),
                lambda: table_with(case, formula, 5)]

    def test_too_many_ahead_of_no_table(self):
        three = (("a", 0, None), ("b", 0, None), ("c", 0, None))
        none = (three, (), (("is", A, 5), ("is", A, 6)))
        deep = ("rank", ("c",), 5)
        for case, formula in ((none, deep), (none, ("kth", 1, (A, deep))), ((three, ((deep, A),), none[2]), A),
                              ((three, (), none[2] + (("count", ("b",), 1, 4),)), A), ((three, (), ()), deep)):
            for call in self.calls(case, formula):
                with self.assertRaises(TooMany) as caught:
                    call()
                self.assertEqual(caught.exception.most, 200)

    def test_just_200_counts(self):
        just = (("a", 0, 9), ("b", 0, 9), ("c", 0, 1))
        case = (just, (), (("count", ("a",), 5, 9),))
        self.assertEqual(places_of(case, ("rank", ("a", "b"), 9)), [("rung", 5), ("gap", 5, None)])
        self.assertEqual(told((just, (), (("is", ("rank", ("c",), 9), None),)), ("rank", ("c",), 2)), ("sure", None))

    def test_the_cut_is_one_of_the_case(self):
        # By the caps of the case alone, though the formula has deeper ones.
        case = (ALL_OPEN, (), (("is", A, 5), ("is", A, 6)))
        for call in self.calls(case, ("rank", ("a",), 9)):
            with self.assertRaises(NoTable) as caught:
                call()
            self.assertIs(is_cut(case, caught.exception.cut), True)
            self.assertEqual(caught.exception.cut, cut_of(case))


if __name__ == "__main__":
    unittest.main()
