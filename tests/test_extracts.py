"""Tests of [49] and of [6]: what occurs at each level, and extracts that show a value."""

import random
import unittest

from countsfall.book import Book
from countsfall.errors import NoTable, NotSure, TooMany
from countsfall.extracts import extract_of, occurring, shows
from countsfall.falls import counts_at
from countsfall.forms import is_integer
from countsfall.ladders import is_let, ladder_of
from countsfall.levels import caps_of, depth_of, level_of, rungs_of
from countsfall.sure import places_of, told
from countsfall.walks import come_to, cut_of, is_cut, starts_of
from countsfall.ways import holds
from tests.samples import (
    A, ALL_OPEN, B, BEST, FIRM, HELD, LOOSE, MIXED, ODD_VALUES, OPEN, PAIR, TOP, WORST, broken, cases_of, counts_within,
    far_numbers, fitting_tables, is_within)

BIG = 10 ** 30
TWO_B = ("rank", ("b",), 2)
NEVER = ("rank", ("b",), 4)
FORMULAS = (A, B, WORST, TWO_B, ("kth", 2, (BEST, B, A)), ("rank", ("a", "b"), 3), NEVER)
THREE = (("a", 0, None), ("b", 0, None), ("c", 0, None))
DEEP = ("rank", ("c",), 5)
SURE = (PAIR, (), (("is", BEST, 5), ("is", WORST, 2), ("is", B, 2)))
CASES = [case for house in (PAIR, MIXED, LOOSE, FIRM) for case in cases_of(house)] + [SURE]
OPENS = [case for house in (OPEN, ALL_OPEN) for case in cases_of(house)[:7]]


def caps_by(case, formulas):
    """Return the caps of a case and some formulas."""
    house, facts, answers = case
    return caps_of(house, depth_of(tuple(formula for fact in facts for formula in fact) + tuple(formulas), answers))


def plain_shows(case, formula, value, thing):
    """Return whether an extract shows a value, by the words of the document."""
    house, _, answers = case
    rungs, caps = rungs_of(answers), caps_by(case, (formula,))
    if value is not None and not (is_integer(value) and value in rungs):
        return False
    if type(thing) is not tuple or len(thing) != 2 or any(type(part) is not list or len(part) != len(rungs) + 1 for part in thing):
        return False
    known = counts_within(caps)
    if any(type(some) is not list or any(repr(counts) not in map(repr, known) for counts in some) for part in thing for some in part):
        return False
    let = [[counts for counts in known if is_let(case, level, counts)] for level in range(len(rungs) + 1)]
    starts = [counts for counts in let[0] if all(many >= min(sort[1], cap) for many, sort, cap in zip(counts, house, caps))]
    downs, ups = thing
    for level, members in enumerate(let):
        ahead = starts if level == 0 else downs[level - 1]
        if any(counts not in downs[level] for counts in members if any(is_within(counts, other) for other in ahead)):
            return False
        last = level == len(rungs)
        if any(counts not in ups[level] for counts in members if last or any(is_within(other, counts) for other in ups[level + 1])):
            return False
    for level in range(len(rungs) + 1):
        is_high = value is not None and level <= level_of(rungs, value)
        if any(holds(house, formula, counts) != is_high for counts in downs[level] if counts in ups[level]):
            return False
    return True


def varied(chosen, case, formula, paper):
    """Return an extract with some lists otherwise: counts put in, doubled, taken out, in another order."""
    known = counts_within(caps_by(case, (formula,)))
    paper = tuple([list(some) for some in part] for part in paper)
    for _ in range(chosen.randint(1, 3)):
        some = chosen.choice(chosen.choice(paper))
        word = chosen.choice(("in", "twice", "out", "order", "all"))
        if word == "in":
            some.insert(0, chosen.choice(known))
        elif word == "all":
            some.extend(known)
        elif word == "order":
            chosen.shuffle(some)
        elif some:
            if word == "out":
                some.remove(chosen.choice(some))
            else:
                some.append(chosen.choice(some))
    return paper


class OccurringTest(unittest.TestCase):

    def test_the_example(self):
        book = Book(PAIR)
        book.put(0, ("is", BEST, 5))
        book.put(0, ("is", WORST, 5))
        self.assertEqual(occurring(book.case()), [[(1, 1)], [(0, 0)]])
        paper = extract_of(book.case(), A)
        self.assertEqual([shows(book.case(), A, value, paper) for value in (5, None, 4)], [True, False, False])

    def test_against_all_tables(self):
        for case in CASES + OPENS:
            house, rungs, caps = case[0], rungs_of(case[2]), caps_by(case, ())
            found = [{} for _ in range(len(rungs) + 1)]
            for table in fitting_tables(case, max(caps)):
                for number in far_numbers(case):
                    counts = counts_at(house, table, number)
                    found[level_of(rungs, number)][tuple(min(many, cap) for many, cap in zip(counts, caps))] = True
            self.assertEqual(occurring(case), [sorted(some) for some in found], case)

    def test_what_is_come_to_and_leads_to_the_end(self):
        for case in CASES + OPENS:
            ladder = ladder_of(case)
            leading = [ladder[-1]]
            for members in ladder[-2::-1]:
                leading.insert(0, [counts for counts in members if any(is_within(other, counts) for other in leading[0])])
            come = come_to(case)
            expected = [[counts for counts in some if counts in lead] for some, lead in zip(come, leading)]
            self.assertEqual(occurring(case), expected)
            self.assertIs(all(some == [] for some in expected), cut_of(case) is not None)

    def test_no_table(self):
        self.assertEqual(occurring((PAIR, (), (("is", A, 1), ("is", A, 2)))), [[], [], []])
        self.assertEqual(occurring((PAIR, (), (("is", A, None),))), [[]])

    def test_sizes_at_the_caps(self):
        self.assertEqual(occurring((HELD, (), ())), [[(0, 0), (0, 1), (1, 0), (1, 1)]])
        self.assertEqual(occurring((HELD, (), (("is", ("rank", ("d",), 1), BIG),))), [[(0, 1), (1, 1)], [(0, 0), (1, 0)]])

    def test_lists_are_new(self):
        found = occurring(SURE)
        for some in found:
            some.append("x")
        found.clear()
        self.assertEqual(occurring(SURE), [[(1, 1)], [(1, 0)], [(0, 0)]])


class ExtractTest(unittest.TestCase):

    def sure_ones(self):
        found = []
        for case in CASES + OPENS:
            if cut_of(case) is None:
                for formula in FORMULAS:
                    kind, value = told(case, formula)
                    if kind == "sure":
                        found.append((case, formula, value))
        return found

    def test_they_show_the_value_and_no_other(self):
        sure = self.sure_ones()
        self.assertGreater(len(sure), 200)
        self.assertGreater(len([value for _, _, value in sure if value is not None]), 50)
        for case, formula, value in sure:
            paper = extract_of(case, formula)
            self.assertEqual([type(paper), [type(part) for part in paper]], [tuple, [list, list]])
            self.assertIs(plain_shows(case, formula, value, paper), True, (case, formula))
            for other in rungs_of(case[2]) + [None, -7, 99]:
                self.assertIs(shows(case, formula, other, paper), other == value, (case, formula, other))

    def test_varied_ones(self):
        chosen = random.Random(53)
        seen = {True: 0, False: 0}
        for case, formula, value in self.sure_ones():
            for _ in range(6):
                paper = varied(chosen, case, formula, extract_of(case, formula))
                expected = plain_shows(case, formula, value, paper)
                self.assertIs(shows(case, formula, value, paper), expected, (case, formula, value, paper))
                seen[expected] += 1
                for other in (None, 1, 2):
                    self.assertIs(shows(case, formula, other, paper), plain_shows(case, formula, other, paper))
        self.assertGreater(min(seen.values()), 300)

    def test_each_count_that_is_needed(self):
        for case, formula, value in self.sure_ones()[::4]:
            paper = extract_of(case, formula)
            for side, level in [(side, level) for side in (0, 1) for level in range(len(paper[0]))]:
                for counts in paper[side][level]:
                    less = tuple([list(some) for some in part] for part in paper)
                    less[side][level].remove(counts)
                    self.assertIs(shows(case, formula, value, less), False, (case, formula, counts))
                    less[side][level].extend([counts, counts])
                    self.assertIs(shows(case, formula, value, less), True)

    def test_counts_of_one_list_alone_may_be_there(self):
        # (0, 1) lies in the second list of level 1, but in the first one only if it is put in.
        paper = extract_of(SURE, A)
        self.assertEqual(paper, ([[(1, 1)], [(1, 0)], [(0, 0)]], [[(1, 1)], [(1, 0)], [(0, 0)]]))
        more = ([[(1, 1), (0, 1), (0, 1)], [(1, 0)], [(0, 0)]], [[(1, 1)], [(1, 0)], [(0, 0)]])
        self.assertIs(shows(SURE, A, 5, more), True)
        both = ([[(1, 1), (0, 1)], [(1, 0)], [(0, 0)]], [[(1, 1), (0, 1)], [(1, 0)], [(0, 0)]])
        self.assertIs(shows(SURE, A, 5, both), False)
        both = ([[(1, 1)], [(1, 0)], [(0, 0), (1, 0)]], [[(1, 1)], [(1, 0)], [(1, 0), (0, 0)]])
        self.assertIs(shows(SURE, A, 5, both), False)

    def test_formulas_that_are_not_sure(self):
        refused = 0
        for case in CASES + OPENS:
            for formula in FORMULAS:
                if cut_of(case) is None and told(case, formula)[0] == "open":
                    with self.assertRaises(NotSure) as caught:
                        extract_of(case, formula)
                    self.assertEqual(caught.exception.places, places_of(case, formula))
                    refused += 1
                    whole = [counts_within(caps_by(case, (formula,)))] * (len(rungs_of(case[2])) + 1)
                    for value in rungs_of(case[2]) + [None]:
                        self.assertIs(shows(case, formula, value, (whole, whole)), False)
        self.assertGreater(refused, 200)

    def test_no_table(self):
        some = 0
        for case in CASES:
            if cut_of(case) is not None:
                with self.assertRaises(NoTable) as caught:
                    extract_of(case, A)
                self.assertIs(is_cut(case, caught.exception.cut), True)
                # Of a case that no table fits, an extract may show any rung.
                levels = len(rungs_of(case[2])) + 1
                caps = caps_by(case, (A,))
                ladder = [[counts for counts in counts_within(caps) if is_let(case, level, counts)] for level in range(levels)]
                cut = cut_of(case)
                if caps == caps_by(case, ()):
                    for value in rungs_of(case[2]) + [None]:
                        for paper in ((cut, ladder), (ladder, ladder)):
                            self.assertIs(shows(case, A, value, paper), plain_shows(case, A, value, paper))
                            some += shows(case, A, value, paper)
        self.assertGreater(some, 5)

    def test_results_are_new(self):
        paper = extract_of(SURE, A)
        lists = [some for part in paper for some in part] + list(paper)
        self.assertEqual(len({id(some) for some in lists}), 8)
        for some in lists:
            some.append(())
        self.assertIs(shows(SURE, A, 5, extract_of(SURE, A)), True)
        self.assertEqual(starts_of(SURE), [(1, 1)])


class AnyValueTest(unittest.TestCase):

    def test_values_that_are_no_rungs(self):
        paper = extract_of(SURE, A)
        for value in ODD_VALUES + (2, 3, 6, BIG, -5, Book(PAIR)):
            self.assertIs(shows(SURE, A, value, paper), False, value)
        case = (LOOSE, (), (("is", BEST, 1), ("is", WORST, 0)))
        for formula, value in ((BEST, 1), (WORST, 0)):
            paper = extract_of(case, formula)
            self.assertEqual([shows(case, formula, other, paper) for other in (value, bool(value))], [True, False])
        case = (LOOSE, (), (("is", BEST, None),))
        self.assertEqual([shows(case, A, value, extract_of(case, A)) for value in (None, False, 0)], [True, False, False])

    def test_things_that_are_no_extracts(self):
        paper = extract_of(SURE, A)
        for thing in ODD_VALUES + (Book(PAIR), (Book(PAIR), []), (paper[0],), paper + ([],), list(paper), paper[0]):
            self.assertIs(shows(SURE, A, 5, thing), False, thing)
        for side in (0, 1):
            for part in (None, tuple(paper[side]), paper[side][:2], paper[side] + [[]], [tuple(some) for some in paper[side]],
                         {0: [], 1: [], 2: []}, "abc", [[], [], []], [None] * 3):
                thing = (part, paper[1]) if side == 0 else (paper[0], part)
                self.assertIs(shows(SURE, A, 5, thing), False, thing)
            for odd in ((2, 0), (0, 0, 0), (0,), [1, 1], (True, True), (1, None), (-1, 0), None, "ab", Book(PAIR), (0, 2)):
                for level in range(3):
                    thing = extract_of(SURE, A)
                    thing[side][level].append(odd)
                    self.assertIs(shows(SURE, A, 5, thing), False, thing)

    def test_parts_of_any_kind(self):
        for thing in broken(tuple(tuple(tuple(some) for some in part) for part in extract_of(SURE, A))):
            self.assertIs(shows(SURE, A, 5, thing), False)


class TooManyTest(unittest.TestCase):

    def check(self, call, *arguments):
        with self.assertRaises(TooMany) as caught:
            call(*arguments)
        self.assertEqual(caught.exception.most, 200)

    def test_by_the_case_and_the_formula_or_the_case_alone(self):
        good, bad = (THREE, (), (("is", A, 5),)), (THREE, (), (("is", A, 5), ("is", A, 4)))
        wide = (THREE, (), (("is", DEEP, 5),))
        self.check(occurring, wide)
        self.assertEqual(occurring(bad), [[], [], []])
        self.assertEqual(len(occurring(good)), 2)
        for case, formula in ((wide, A), (good, DEEP), (bad, DEEP)):
            self.check(extract_of, case, formula)
            for value, thing in ((5, None), ("x", ([], [])), (None, 7)):
                self.check(shows, case, formula, value, thing)
        self.check(occurring, (THREE, ((A, DEEP),), ()))
        self.check(occurring, (THREE, (), (("count", ("a",), 4, 5),)))
        just = ((("a", 0, 9), ("b", 0, 9), ("c", 0, 1)), (), (("is", ("rank", ("a", "b"), 9), 4),))
        self.assertEqual(len(occurring(just)), 2)
        self.assertIs(shows(just, ("rank", ("a", "b"), 9), 4, extract_of(just, ("rank", ("a", "b"), 9))), True)


if __name__ == "__main__":
    unittest.main()
