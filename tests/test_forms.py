"""Tests of [2] and [12]: what is an integer, a name, a house, and so on."""

import copy
import unittest

from countsfall import forms
from countsfall.errors import CountError, Wrong
from countsfall.forms import (
    is_answer, is_case, is_counts, is_fact, is_formula, is_house, is_integer, is_lot, is_name, is_table)
from tests.samples import HOUSES, NO_FORMULAS, ODD_VALUES, OPEN, PAIR, broken, formulas_of

HOUSE = (("a", 1, 1), ("b", 0, 2), ("c", 2, None))
RANK = ("rank", ("a", "c"), 2)
DEEP = ("kth", 2, (RANK, ("kth", 1, (("rank", ("b",), 1), RANK)), RANK))
FACT = (RANK, DEEP)
ANSWERS = (("is", DEEP, 5), ("is", RANK, None), ("count", ("a", "b"), -4, 0))
CASE = (HOUSE, (FACT, (DEEP, RANK)), ANSWERS)
OF_HOUSE = (is_table, is_lot, is_formula, is_fact, is_answer, is_counts)


class KindsTest(unittest.TestCase):

    def check(self, right, wrong, test):
        for thing in right:
            self.assertIs(test(thing), True, thing)
        for thing in wrong:
            self.assertIs(test(thing), False, thing)

    def test_integers(self):
        right = [0, 1, -1, 9, 10 ** 40, -10 ** 40]
        self.check(right, [True, False, None, "1", 1.0, (1,), [1], {1: 1}, Wrong(1), int], is_integer)

    def test_names(self):
        right = ["a", "z", "az", "abcdef", "rank", "open", "is"]
        wrong = ["", "abcdefg", "A", "aB", "a1", "a ", " a", "a\n", "a-b", "`", "{", "\u00e9"]
        self.check(right, wrong + [None, True, 1, ("a",), ["a"], {"a": 1}, Wrong("a"), str], is_name)

    def test_houses(self):
        right = list(HOUSES) + [HOUSE, (("a", 0, 0),), (("a", 100, 10 ** 30),), (("rank", 7, None),)]
        right.append(tuple((name, 0, None) for name in "abcde"))
        wrong = [(), HOUSE[0], [HOUSE[0]], (list(HOUSE[0]),), HOUSE[::-1], HOUSE[:1] * 2, (("a", 1),), (("a", 1, 1, 1),)]
        wrong += [(("a", -1, 1),), (("a", 2, 1),), (("a", None, None),), (("A", 1, 1),), (("", 1, 1),)]
        wrong += [(("a", True, 1),), (("a", 0, True),), (("a", 0, False),), (("a", 0, "open"),), (("a", 0, -1),)]
        wrong += [(("a", 0, 1), ("a", 0, 2)), (("b", 0, 1), ("a", 0, 1)), tuple((name, 0, None) for name in "abcdef")]
        self.check(right, wrong, is_house)

    def test_tables(self):
        right = [{"a": (5,), "b": (), "c": (1, 1)}, {"c": (-3, 0, 0, 10 ** 31), "b": (7, 8), "a": (-9,)}]
        wrong = [{}, {"a": (5,), "b": ()}, {"a": (5,), "b": (), "c": (1, 1), "d": ()}, {"a": (5,), "b": (), "d": (1, 1)}]
        wrong += [{"a": (), "b": (), "c": (1, 1)}, {"a": (5, 6), "b": (), "c": (1, 1)}]
        wrong += [{"a": (5,), "b": (1, 2, 3), "c": (1, 1)}, {"a": (5,), "b": (), "c": (1,)}]
        wrong += [{"a": (5,), "b": (2, 1), "c": (1, 1)}, {"a": [5], "b": (), "c": (1, 1)}]
        wrong += [{"a": (5,), "b": (), "c": (1, True)}, {"a": (False,), "b": (), "c": (1, 1)}]
        wrong += [{"a": (None,), "b": (), "c": (1, 1)}, {"a": ("5",), "b": (), "c": (1, 1)}, {"a": 5, "b": (), "c": ()}]
        wrong += [{"a": (5,), 1: (), "c": (1, 1)}, {None: (5,), ("b",): (), True: (1, 1)}, {"a": None, "b": 0, "c": {}}]
        wrong += [(("a", (5,)), ("b", ()), ("c", (1, 1))), ["a", "b", "c"]]
        self.check(right, wrong, lambda thing: is_table(HOUSE, thing))

    def test_lots(self):
        right = [("a",), ("c",), ("a", "b"), ("a", "c"), ("a", "b", "c")]
        wrong = [(), ("d",), ("b", "a"), ("a", "a"), ("a", "b", "d"), "a", "ab", ["a"], (1,), (None,), (True, "a")]
        wrong += [(("a",),), (["a"],), ({},), {"a": 1}, ("a", ["b"]), ("a", Wrong("b")), ("a", None)]
        self.check(right, wrong, lambda thing: is_lot(HOUSE, thing))

    def test_formulas(self):
        right = [RANK, DEEP, ("rank", ("a",), 1), ("rank", ("a",), 10 ** 30), ("kth", 1, (RANK,)), ("kth", 2, (RANK, RANK))]
        wrong = [("rank", ("a",), 0), ("rank", ("a",), -1), ("rank", (), 1), ("rank", ("d",), 1), ("rank", ("b", "a"), 1)]
        wrong += [("kth", 0, (RANK,)), ("kth", 2, (RANK,)), ("kth", 1, ()), ("kth", 1, RANK), ("kth", 1, [RANK])]
        wrong += [("rank", ("a",), True), ("kth", True, (RANK,)), ("rank", ("a",)), ("rank", ("a",), 1, 1), list(RANK)]
        wrong += [("rank", 1, ("a",)), ("best", ("a",), 1), ("kth", (RANK,), 1), (RANK,), ("kth", 1, (RANK, None))]
        self.check(right, wrong + list(NO_FORMULAS), lambda thing: is_formula(HOUSE, thing))

    def test_a_formula_may_be_deeper_and_larger_than_the_bounds(self):
        formula = ("rank", ("a",), 99)
        for _ in range(9):
            formula = ("kth", 1, (formula,))
        self.assertIs(is_formula(HOUSE, formula), True)
        self.assertIs(is_formula(HOUSE, ("kth", 40, (RANK,) * 40)), True)
        self.assertIs(is_formula(HOUSE, ("kth", 41, (RANK,) * 40)), False)

    def test_facts(self):
        right = [FACT, (RANK, RANK), (DEEP, RANK)]
        wrong = [(), (RANK,), (RANK, RANK, RANK), [RANK, RANK], RANK, (RANK, list(RANK)), (None, RANK), {0: RANK, 1: RANK}]
        wrong += [("fact", RANK, RANK), (RANK, ("rank", ("d",), 1))]
        self.check(right, wrong, lambda thing: is_fact(HOUSE, thing))

    def test_answers(self):
        right = list(ANSWERS) + [("is", RANK, -10 ** 30), ("is", RANK, 0), ("count", ("c",), 0, 100), ("count", ("b",), 3, 3)]
        wrong = [("is", RANK), ("is", RANK, 5, 5), ("is", RANK, True), ("is", RANK, "nothing"), ("is", None, 5), ("is",)]
        wrong += [("count", ("a",), 1, -1), ("count", ("a",), None, 1), ("count", ("a",), 1, None), ("count", (), 1, 1)]
        wrong += [("count", ("a",), True, 1), ("count", ("a",), 1, True), ("count", ("b", "a"), 1, 1), ("count", "a", 1, 1)]
        wrong += [("count", ("a",), 1), ("count", ("a",), 1, 1, 1), ("fact", RANK, RANK), (), ["is", RANK, 5], "is"]
        wrong += [("count", RANK, 5), ("is", ("a",), 1, 1)]
        self.check(right, wrong, lambda thing: is_answer(HOUSE, thing))

    def test_cases(self):
        right = [CASE, (HOUSE, (), ()), (HOUSE, (FACT,) * 9, ANSWERS * 9), (PAIR, (), (("is", ("rank", ("a",), 1), 3),))]
        wrong = [(HOUSE, ()), (HOUSE, (), (), ()), (HOUSE, [], ()), (HOUSE, (), []), [HOUSE, (), ()], ((), (), ())]
        wrong += [(HOUSE, None, ()), (HOUSE, (), None), (HOUSE, ANSWERS, ()), (HOUSE, (), (FACT,)), (PAIR,) + CASE[1:]]
        wrong += [(HOUSE, {}, ()), (HOUSE, (), {}), (HOUSE, FACT, ()), (HOUSE, (), ANSWERS[0]), HOUSE, (None, (), ())]
        self.check(right, wrong, is_case)

    def test_counts(self):
        right = [(0, 0, 0), (1, 2, 0), (1, 2, 10 ** 20), (0, 1, 3)]
        wrong = [(2, 0, 0), (0, 3, 0), (0, 0), (0, 0, 0, 0), (-1, 0, 0), (0, 0, -1), (True, 0, 0), (0, 0, False), [0, 0, 0]]
        wrong += [(None, 0, 0), ("0", 0, 0), (), {"a": 1, "b": 1, "c": 1}, 0, ((0, 0, 0),)]
        self.check(right, wrong, lambda thing: is_counts(HOUSE, thing))


class AnyValueTest(unittest.TestCase):

    def test_one_part_of_another_kind(self):
        for thing in broken(CASE):
            self.assertIs(is_case(thing), False, thing)
        for thing in broken(HOUSE):
            self.assertIs(is_house(thing), False, thing)
        for test, right in ((is_formula, DEEP), (is_fact, FACT), (is_lot, ("a", "c")), (is_counts, (1, 0, 2))):
            self.assertIs(test(HOUSE, right), True)
            for thing in broken(right):
                self.assertIs(test(HOUSE, thing), False, thing)
        for answer in ANSWERS:
            for thing in broken(answer):
                self.assertIs(is_answer(HOUSE, thing), False, thing)

    def test_one_part_of_a_table_of_another_kind(self):
        table = {"a": (4,), "b": (2, 3), "c": (0, 0, 1)}
        for name in table:
            for thing in broken(table[name]):
                self.assertIs(is_table(HOUSE, {**table, name: thing}), False, thing)
            for key in (None, 1, True, (name,), name + "x"):
                parts = {other: table[other] for other in table if other != name}
                self.assertIs(is_table(HOUSE, {**parts, key: table[name]}), False, key)
                self.assertIs(is_table(HOUSE, {**table, key: ()}), False, key)

    def test_odd_values_get_a_truth_and_stay_as_they_are(self):
        for thing in ODD_VALUES:
            before = thing if isinstance(thing, CountError) else copy.deepcopy(thing)
            for test in (is_integer, is_name, is_house, is_case):
                self.assertIsInstance(test(thing), bool)
            for test in OF_HOUSE:
                for house in HOUSES + (HOUSE,):
                    self.assertIsInstance(test(house, thing), bool)
            self.assertEqual(thing, before)

    def test_odd_values_that_are_something(self):
        found = {test.__name__: [thing for thing in ODD_VALUES if test(thing)] for test in (is_name, is_house, is_case)}
        self.assertEqual(found, {"is_name": ["a", "b", "rank", "is", "open"], "is_house": [(("a", 1, 1),)], "is_case": []})
        of_pair = {test.__name__: [thing for thing in ODD_VALUES if test(PAIR, thing)] for test in OF_HOUSE}
        both = {"a": (1,), "b": (2,)}
        self.assertEqual(of_pair, {
            "is_table": [both, both], "is_lot": [("a",), ("a", "b")], "is_formula": [("rank", ("a",), 1)], "is_fact": [],
            "is_answer": [("count", ("a",), 1, 0)], "is_counts": [(0, 0), (1, 1)]})

    def test_values_of_another_house(self):
        for formula in formulas_of(PAIR):
            self.assertIs(is_formula(PAIR, formula), True)
            self.assertIs(is_formula((("c", 0, 1),), formula), False)
        self.assertIs(is_counts(OPEN, (50, 2)), True)
        self.assertIs(is_counts(PAIR, (50, 1)), False)

    def test_the_functions_stand_in_the_module(self):
        for test in OF_HOUSE + (is_integer, is_name, is_house, is_case):
            self.assertIs(getattr(forms, test.__name__), test)


if __name__ == "__main__":
    unittest.main()
