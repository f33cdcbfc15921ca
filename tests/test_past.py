"""Tests of [47]: what formulas behind a script tell of the table ahead of it."""

import itertools
import unittest

from countsfall.acts import counts_behind
from countsfall.deeds import done, freed
from countsfall.errors import Never, NoDeed, TooMany
from countsfall.forms import is_case, is_formula, is_table
from countsfall.past import case_before, formula_before, lost_tables
from countsfall.tables import fits, keeps, value_of
from countsfall.ways import holds
from tests.samples import (
    A, B, BEST, FIRM, LOOSE, MIXED, OPEN, PAIR, WORST, counts_within, formulas_of, greatest_rank, ranks_of, tables_with)
from tests.test_acts import some_scripts
from tests.test_scripts import FEW, HELD_AB, reach_of

BIG = 10 ** 30
TWO_A, TWO_B = ("rank", ("a",), 2), ("rank", ("b",), 2)
STILL = tuple(deed for deed in FEW if deed[0] != "come") + (("go", "a", 2), ("move", "b", 2, "a"), ("keep", "b", 1))
HOUSES = (PAIR, MIXED, LOOSE, FIRM, HELD_AB, OPEN)
FORMULAS = (A, B, TWO_A, TWO_B, BEST, WORST, ("rank", ("a", "b"), 3), ("kth", 2, (A, TWO_B, BEST)), ("kth", 1, (TWO_A, WORST)))
WIDE = tuple((name, 0, None) for name in "abc")


class BeforeTest(unittest.TestCase):

    def test_the_example(self):
        house = (("a", 0, 3), ("b", 0, 3))
        self.assertIs(formula_before(house, (("keep", "a", 0),), ("rank", ("a",), 1)), None)

    def check(self, house, script, formula, tables):
        found = formula_before(house, script, formula)
        if found is not None:
            self.assertIs(is_formula(house, found), True)
        for table in tables:
            expected = value_of(freed(house), done(house, table, script), formula)
            value = None if found is None else value_of(house, table, found)
            self.assertEqual(value, expected, (house, script, formula, table, found))
        return found

    def test_against_all_small_tables(self):
        nothing = 0
        for house in HOUSES:
            # With up to five rows of an open sort, more than what can count here.
            tables = tables_with(house, (0, 1, 2) if house != OPEN else (0, 1), 5)
            for script in some_scripts(29, 60, 3, STILL):
                for formula in FORMULAS:
                    found = self.check(house, script, formula, tables[::1 if house == PAIR else 3])
                    if found is None:
                        nothing += 1
                    else:
                        # There is a table in which it is something.
                        self.assertTrue(any(value_of(house, table, found) is not None for table in tables))
        self.assertGreater(nothing, 100)

    def test_other_formulas(self):
        for house in (LOOSE, MIXED):
            tables = tables_with(house, (-5, 0, 1))[::3]
            for script in some_scripts(31, 12, 5, STILL):
                for formula in formulas_of(house)[::5]:
                    self.check(house, script, formula, tables)

    def test_no_deeds(self):
        for house in HOUSES:
            tables = tables_with(house, (0, 1, 2))
            for formula in FORMULAS:
                found = self.check(house, (), formula, tables)
                self.assertIs(found is None, all(value_of(house, table, formula) is None for table in tables))

    def test_each_kind_of_deed(self):
        house = (("a", 0, 3), ("b", 1, 2))
        tables = tables_with(house, (0, 1, 5))
        for deed in (("go", "a", 1), ("go", "b", 2), ("go", "a", 4), ("move", "a", 1, "b"), ("move", "b", 1, "a"), ("keep", "a", 1),
                     ("keep", "b", 0), ("merge", "a", "b"), ("merge", "b", "a"), ("keep", "a", 9), ("move", "a", 9, "b")):
            for formula in ranks_of(house, 4):
                self.check(house, (deed,), formula, tables)

    def test_nothing_in_all_tables(self):
        for house, script, formula in (
                (PAIR, (("go", "a", 1),), A), (LOOSE, (("keep", "b", 0), ("keep", "a", 1)), WORST), (MIXED, (), TWO_A),
                (OPEN, (("merge", "a", "b"),), A), (LOOSE, (("merge", "b", "a"),), ("rank", ("a",), 4)), (OPEN, (("keep", "b", 1),), TWO_B)):
            self.assertIs(formula_before(house, script, formula), None)
            for table in tables_with(house, (0, 1)):
                self.assertIs(value_of(house, done(house, table, script), formula), None)

    def test_no_come(self):
        come = ("come", "a", 5)
        for script, index in (((come,), 0), ((("go", "a", 1), come, come), 1), ((("keep", "a", 9),) * 11 + (come,), 11)):
            for house in (PAIR, WIDE + (("d", 9, None), ("e", 9, 9))):
                for formula in (A, ("rank", ("b",), 9)):
                    with self.assertRaises(NoDeed) as caught:
                        formula_before(house, script, formula)
                    self.assertEqual(caught.exception.index, index)


class LostTest(unittest.TestCase):

    def check_tables(self, house, script, formula, found):
        self.assertEqual([type(found), len(found)], [tuple, 2])
        one, other = found
        for table in found:
            self.assertEqual([is_table(house, table), list(table) == sorted(table)], [True, True])
        self.assertEqual(done(house, one, script), done(house, other, script), (house, script, formula))
        self.assertNotEqual(value_of(house, one, formula), value_of(house, other, formula), (house, script, formula))

    def test_the_example(self):
        house, script = (("a", 0, 3), ("b", 0, 3)), (("move", "a", 1, "b"),)
        self.assertIs(lost_tables(house, script, WORST), None)
        self.check_tables(house, script, A, lost_tables(house, script, A))

    def test_against_all_couples_of_small_tables(self):
        seen = {True: 0, False: 0}
        for house in (PAIR, MIXED, LOOSE, FIRM, HELD_AB):
            tables = tables_with(house, (-1, 0, 1, 2, 3))
            for script in some_scripts(37, 25, 3, FEW):
                behind = [repr(done(house, table, script)) for table in tables]
                for formula in FORMULAS:
                    known = {}
                    for key, table in zip(behind, tables):
                        known.setdefault(key, set()).add(value_of(house, table, formula))
                    lost = any(len(values) > 1 for values in known.values())
                    found = lost_tables(house, script, formula)
                    self.assertIs(found is not None, lost, (house, script, formula))
                    if lost:
                        self.check_tables(house, script, formula, found)
                    seen[lost] += 1
        self.assertGreater(min(seen.values()), 200)

    def test_open_sorts(self):
        tables = tables_with(OPEN, (0, 1, 2), 4)
        for script in some_scripts(41, 20, 3, FEW):
            behind = [repr(done(OPEN, table, script)) for table in tables]
            for formula in FORMULAS[:6]:
                found = lost_tables(OPEN, script, formula)
                if found is not None:
                    self.check_tables(OPEN, script, formula, found)
                else:
                    known = {}
                    for key, table in zip(behind, tables):
                        value = value_of(OPEN, table, formula)
                        self.assertEqual(known.setdefault(key, value), value)

    def test_at_one_stretch_alone(self):
        # Up to 4 the row that comes is among those that stay, and the best row of a is lost behind it.
        house = (("a", 1, 1),)
        script = (("come", "a", 4), ("keep", "a", 1))
        found = lost_tables(house, script, A)
        self.check_tables(house, script, A, found)
        self.assertLessEqual(max(table["a"][0] for table in found), 4)
        script = (("come", "a", 4), ("go", "a", 1))
        self.check_tables(house, script, A, lost_tables(house, script, A))
        self.assertIs(lost_tables(house, (("come", "a", 4),), A), None)
        self.assertIs(lost_tables((("a", 0, 9),), (("come", "a", 4), ("come", "a", -BIG)), ("rank", ("a",), 9)), None)
        for number in (-BIG, BIG):
            script = (("come", "a", number), ("keep", "a", 1))
            self.check_tables(house, script, A, lost_tables(house, script, A))

    def test_counts_up_to_the_reach_are_enough(self):
        lost = 0
        house, known = (("a", 0, 9), ("b", 0, 9)), counts_within((9, 9))
        for script in some_scripts(47, 60, 4, FEW + STILL):
            for formula in FORMULAS:
                pairs = {}
                for counts in known:
                    for number in (0, 1, 2, 3):
                        key = (number, counts_behind(house, script, number, counts))
                        pairs.setdefault(key, set()).add(holds(house, formula, counts))
                expected = any(len(truths) > 1 for truths in pairs.values())
                self.assertIs(lost_tables(house, script, formula) is not None, expected, (script, formula))
                lost += expected
        self.assertGreater(lost, 100)

    def test_unlike_sizes(self):
        house = (("a", 0, 2), ("b", 0, 2))
        for script, formula in (((("keep", "a", 1),), TWO_A), ((("go", "a", 1),), A), ((("merge", "a", "b"),), B)):
            self.check_tables(house, script, formula, lost_tables(house, script, formula))
        house = (("a", 5, 6), ("b", 0, None))
        for script, formula in (((("keep", "a", 1),), TWO_A), ((("go", "a", 5),), ("rank", ("a",), 5)), ((("keep", "b", 0),), B)):
            self.check_tables(house, script, formula, lost_tables(house, script, formula))

    def test_results_are_new(self):
        script = (("go", "a", 1),)
        for table in lost_tables(LOOSE, script, A):
            table.clear()
        self.check_tables(LOOSE, script, A, lost_tables(LOOSE, script, A))


class CaseTest(unittest.TestCase):

    def fits_steps(self, house, facts, steps, table):
        """Return whether a first table keeps facts, and all answers are right of the tables behind the deeds ahead."""
        if not keeps(house, table, facts):
            return False
        deeds = ()
        for step in steps:
            if step[0] != "is":
                deeds = deeds + (step,)
            elif value_of(freed(house), done(house, table, deeds), step[1]) != step[2]:
                return False
        return True

    def check(self, house, facts, steps, tables):
        case = case_before(house, facts, steps)
        self.assertEqual([is_case(case), case[0], case[1]], [True, house, facts])
        for answer in case[2]:
            self.assertEqual(answer[0], "is")
        for table in tables:
            self.assertIs(fits(case, table), self.fits_steps(house, facts, steps, table), (house, facts, steps, table))
        return case

    def test_against_all_small_tables(self):
        some = refused = 0
        deeds = some_scripts(43, 40, 4, STILL)
        answers = [("is", formula, value) for formula in FORMULAS for value in (0, 1, None)]
        for house in (PAIR, MIXED, LOOSE, HELD_AB):
            tables = tables_with(house, (-1, 0, 1, 2))
            for number, script in enumerate(deeds):
                steps = list(script)
                for k in range(number % 4):
                    steps.insert((number * 3 + k * 2) % (len(steps) + 1), answers[(number * 7 + k * 11) % len(answers)])
                try:
                    case = self.check(house, ((B, BEST),) if number % 2 else (), tuple(steps), tables)
                    some += 0 < len([table for table in tables if fits(case, table)]) < len(tables)
                except Never as error:
                    refused += 1
                    self.check_never(house, tuple(steps), error.index, tables)
        self.assertGreater(some, 20)
        self.assertGreater(refused, 5)

    def check_never(self, house, steps, index, tables):
        """Check that the answer with this index can never be right, and that all ahead of it are not such."""
        for at in range(index + 1):
            if steps[at][0] == "is" and steps[at][2] is not None:
                deeds = tuple(step for step in steps[:at] if step[0] != "is")
                values = {value_of(freed(house), done(house, table, deeds), steps[at][1]) for table in tables}
                self.assertIs(values == {None}, at == index)

    def test_answers_become_formulas_of_the_first_table(self):
        steps = (("is", A, 5), ("go", "a", 1), ("is", A, 3), ("move", "b", 1, "a"), ("is", WORST, 2))
        house = (("a", 0, 3), ("b", 0, 3))
        case = self.check(house, ((B, A),), steps, tables_with(house, (2, 3, 5)))
        self.assertEqual(case[2], tuple(("is", formula_before(house, script, formula), value) for script, formula, value in (
            ((), A, 5), (steps[1:2], A, 3), ((steps[1], steps[3]), WORST, 2))))
        self.assertEqual(case_before(house, (), ()), (house, (), ()))
        self.assertEqual(case_before(house, ((B, A),), (("go", "a", 1), ("keep", "b", 0))), (house, ((B, A),), ()))

    def test_answers_that_are_left_out(self):
        steps = (("keep", "a", 0), ("is", A, None), ("is", B, 4), ("is", TWO_A, None))
        case = self.check(LOOSE, (), steps, tables_with(LOOSE, (3, 4)))
        self.assertEqual(case[2], (("is", formula_before(LOOSE, steps[:1], B), 4),))
        # This one can be right or not, so it stays.
        case = self.check(LOOSE, (), (("is", A, None),), tables_with(LOOSE, (3, 4)))
        self.assertEqual(len(case[2]), 1)

    def check_error(self, error, field, value, *arguments):
        with self.assertRaises(error) as caught:
            case_before(*arguments)
        self.assertEqual(getattr(caught.exception, field), value)

    def test_never(self):
        gone = (("keep", "a", 0), ("is", A, None), ("is", B, 3), ("is", A, 3), ("is", TWO_A, 0))
        self.check_error(Never, "index", 3, LOOSE, (), gone)
        self.check_error(Never, "index", 0, PAIR, (), (("is", TWO_A, 1), ("is", A, 1)))
        self.check_error(Never, "index", 1, PAIR, (), (("is", TWO_A, None), ("is", TWO_A, -BIG)))

    def test_no_deed_then_too_many_then_never(self):
        come, deep = ("come", "a", 5), ("rank", ("a", "b", "c"), 9)
        many, never = (("keep", "b", 9),) * 9 + (("is", deep, 4),) + (("keep", "c", 9),) * 12, ("is", ("rank", ("d",), 1), 4)
        house = WIDE + (("d", 0, 0), ("e", 1, 1))
        self.check_error(NoDeed, "index", 0, PAIR, (), (come, ("is", TWO_A, 1)))
        self.check_error(NoDeed, "index", 2, PAIR, (), (("is", TWO_A, 1), ("go", "a", 1), come, come))
        self.check_error(NoDeed, "index", 23, house, (), many + (never, come))
        self.check_error(TooMany, "most", 20000, house, (), (never,) + many + (("is", deep, 4), never))
        self.check_error(TooMany, "most", 20000, house, (), many + (("is", deep, None),))
        self.check_error(Never, "index", 10, house, (), many[:10] + (never,) + many[10:])
        self.check_error(NoDeed, "index", 1, LOOSE, (), (("is", A, 0), come))
        # Deeds behind which nothing is answered do not count.
        self.assertEqual(len(case_before(house, (), many)[2]), 1)


class TooManyTest(unittest.TestCase):

    def check(self, is_beyond, house, script, formula):
        for call in (formula_before, lost_tables):
            if is_beyond:
                with self.assertRaises(TooMany) as caught:
                    call(house, script, formula)
                self.assertEqual(caught.exception.most, 20000)
            else:
                call(house, script, formula)

    def test_by_the_script_and_the_formula(self):
        deep = ("kth", 1, (A, ("rank", ("b", "c"), 9), B))
        for script, formula in ((((("go", "a", 3),) * 9), A), ((("keep", "a", 1),) * 9, deep), ((), deep), ((("go", "b", 9),), A)):
            reach = reach_of(script + (("go", "a", greatest_rank(formula)),), ()) - 1
            for many in (3, 4, 5):
                house = tuple((name, 0, None) for name in "abcde"[:many])
                self.check((reach + 1) ** many > 20000, house, script, formula)

    def test_just_20000(self):
        house = (("a", 0, 9), ("b", 0, 9), ("c", 0, 9), ("d", 0, 19))
        script, formula = (("go", "a", 9),) * 9 + (("merge", "b", "d"),), ("rank", ("a", "d"), 9)
        self.check(False, house, script, formula)
        self.check(True, house[:3] + (("d", 0, 20),), script, formula)
        self.check(False, house[:3] + (("d", 0, 19),), script[1:], formula)
        # The reach is 10 or 11 here, with 11 ** 4 or 12 ** 4 counts.
        self.check(False, WIDE + (("d", 0, None),), (("go", "a", 8),), A)
        self.check(True, WIDE + (("d", 0, None),), (("go", "a", 9),), A)
        self.check(False, WIDE + (("d", 0, None),), (), ("rank", ("c",), 9))
        self.check(True, WIDE + (("d", 0, None),), (("go", "a", 1),), ("rank", ("c",), 9))

    def test_come_for_lost_tables(self):
        script = (("come", "a", 3),) * 12
        with self.assertRaises(TooMany):
            lost_tables(WIDE + (("d", 0, None),), script, A)
        self.assertIs(lost_tables(WIDE, script, A), None)

    def test_wide_houses(self):
        script = (("move", "a", 2, "b"), ("go", "b", 3), ("merge", "c", "a"), ("move", "b", 1, "c"))
        formula = ("kth", 2, (("rank", ("a", "c"), 9), ("rank", ("b", "c"), 7), ("rank", ("a", "b", "c"), 5)))
        found = formula_before(WIDE, script, formula)
        for sizes in ((0, 3, 4), (5, 5, 5), (9, 2, 0), (12, 1, 1)):
            table = {name: tuple(range(k, size * 2 + k, 2)) for k, (name, size) in enumerate(zip("abc", sizes))}
            self.assertEqual(value_of(WIDE, table, found), value_of(WIDE, done(WIDE, table, script), formula))


if __name__ == "__main__":
    unittest.main()
