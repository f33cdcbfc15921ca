"""Tests of [24] and of [6]: starts, what is come to, tables that fit, cuts."""

import copy
import itertools
import unittest

from countsfall.errors import CountError, TooMany
from countsfall.forms import is_table
from countsfall.ladders import ladder_of
from countsfall.levels import caps_of, depth_of, rungs_of
from countsfall.tables import all_numbers, fits
from countsfall.walks import a_table, come_to, cut_of, is_cut, starts_of
from tests.samples import (
    A, ALL_OPEN, B, BEST, EMPTY, FIRM, LOOSE, MIXED, ODD_VALUES, OPEN, PAIR, WORST, cases_of, counts_within,
    is_within, numbers_by, tables_with)

# Sorts whose least is above the caps of most cases.
FULL = (("a", 3, 4), ("b", 2, None))
FEW = (("a", 0, 1), ("b", 0, 0))
TWO_SORTS = (PAIR, MIXED, LOOSE, FIRM, OPEN, ALL_OPEN, FULL, FEW)
BIG = 10 ** 30


def caps_by(case):
    """Return the caps of a case."""
    return caps_of(case[0], depth_of(tuple(formula for fact in case[1] for formula in fact), case[2]))


def plain_starts(case):
    """Return the starts of a case by the words of the document."""
    caps = caps_by(case)
    return [counts for counts in ladder_of(case)[0]
            if all(many >= sort[1] or many == cap for sort, many, cap in zip(case[0], counts, caps))]


def plain_come_to(case):
    """Return what is come to by the words of the document."""
    ahead, levels = plain_starts(case), []
    for level in ladder_of(case):
        ahead = [counts for counts in level if any(is_within(counts, other) for other in ahead)]
        levels.append(ahead)
    return levels


def plain_is_cut(case, cut):
    """Return whether a list of lists of counts is a cut by the words of the document."""
    caps, ladder, ahead = caps_by(case), ladder_of(case), plain_starts(case)
    if len(cut) != len(ladder) or cut[-1] != []:
        return False
    for level, told in zip(ladder, cut):
        if len(set(told)) != len(told) or not all(is_within(counts, caps) for counts in told):
            return False
        if not all(counts in told for counts in level if any(is_within(counts, other) for other in ahead)):
            return False
        ahead = told
    return True


def cuts_about(case):
    """Return lists of lists of counts that are about what is come to: some of them cuts, others not."""
    told = come_to(case)
    counts = counts_within(caps_by(case))
    found = [told, told[:-1], told + [[]], told[:-1] + [[]], [[]] * len(told), [[] for _ in told[1:]], ladder_of(case)]
    found.append([list(reversed(level)) for level in told])
    found.append([counts for _ in told[:-1]] + [[]])
    found.append(told[1:] + told[:1])
    for at, level in enumerate(told):
        found.extend(told[:at] + [level[:k] + level[k + 1:]] + told[at + 1:] for k in range(len(level)))
        found.extend(told[:at] + [level + [level[k]]] + told[at + 1:] for k in range(len(level)))
        found.extend(told[:at] + [level + [other]] + told[at + 1:] for other in counts if other not in level)
        found.append(told[:at] + [[other for other in counts if other not in level] + level] + told[at + 1:])
    return found


class ComeToTest(unittest.TestCase):

    def test_against_the_words(self):
        for house in TWO_SORTS:
            for case in cases_of(house):
                self.assertEqual(starts_of(case), plain_starts(case))
                self.assertEqual(come_to(case), plain_come_to(case))

    def test_the_examples(self):
        house = (("a", 1, 1), ("b", 0, None))
        answers = (("is", BEST, 5), ("count", ("b",), 3, 1))
        self.assertEqual(come_to((house, (), answers))[1:], [[(0, 1), (1, 1)], [(0, 1), (1, 0), (1, 1)], [(0, 0)]])
        self.assertEqual(ladder_of((house, (), answers))[2], [(0, 1), (0, 2), (1, 0), (1, 1), (1, 2)])

    def test_starts(self):
        self.assertEqual(starts_of((MIXED, (), (("is", BEST, 5),))), [(1, 0), (1, 1)])
        self.assertEqual(starts_of((MIXED, (), (("is", WORST, 5),))), [(1, 1), (1, 2)])
        self.assertEqual(starts_of((OPEN, (), (("is", A, None),))), [(0, 1)])
        self.assertEqual(starts_of((LOOSE, ((A, B),), ())), [(0, 0), (0, 1), (1, 1)])
        self.assertEqual(starts_of((EMPTY, (), ())), [(0,)])

    def test_a_least_above_the_cap(self):
        # Four rows of a and two of b are at the caps by one row of each.
        house = (("a", 4, 6), ("b", 2, None))
        self.assertEqual(starts_of((house, (), ())), [(1, 1)])
        self.assertEqual(starts_of((house, (), (("count", ("a", "b"), 0, 2),))), [(3, 2), (3, 3)])
        self.assertEqual(starts_of((house, (), (("is", ("rank", ("b",), 3), None),))), [(3, 2)])
        self.assertEqual(come_to((house, (), (("is", BEST, 4),))), [[(0, 1), (1, 0), (1, 1)], [(0, 0)]])

    def test_without_a_start_nothing_is_come_to(self):
        case = (PAIR, ((("rank", ("a",), 1), ("rank", ("b",), 2)),), (("is", WORST, 4),))
        self.assertEqual([starts_of(case), come_to(case)], [[], [[], []]])

    def test_no_answers(self):
        self.assertEqual(come_to((PAIR, (), ())), [[(0, 0), (0, 1), (1, 0), (1, 1)]])
        self.assertEqual(come_to((PAIR, ((A, B), (B, A)), ())), [[(0, 0), (1, 1)]])

    def test_lists_are_new(self):
        case = (PAIR, (), (("is", A, 2), ("count", ("b",), 5, 0)))
        for call in (starts_of, come_to):
            found, expected = call(case), call(case)
            for level in found:
                if isinstance(level, list):
                    level.append(None)
            found.append([])
            self.assertEqual(call(case), expected)
        for one, other in itertools.combinations(come_to(case), 2):
            self.assertIsNot(one, other)


class TableTest(unittest.TestCase):

    def check_table(self, case, table):
        rungs = rungs_of(case[2])
        self.assertIs(is_table(case[0], table), True)
        self.assertIs(fits(case, table), True)
        self.assertEqual(list(table), sorted(table))
        self.assertLessEqual(set(all_numbers(table)), set(rungs or [0]))

    def test_against_all_tables(self):
        for house, beyond in ((PAIR, 0), (MIXED, 0), (LOOSE, 0), (FIRM, 0), (OPEN, 2), (FEW, 0)):
            for case in cases_of(house):
                numbers = numbers_by(rungs_of(case[2]))
                some = any(fits(case, table) for table in tables_with(house, numbers, beyond))
                table, cut = a_table(case), cut_of(case)
                self.assertEqual([table is not None, cut is None], [some, some])
                self.assertIs(come_to(case)[-1] != [], some)
                self.assertIs(come_to(case)[-1][:1] == [(0,) * len(house)], some)
                if some:
                    self.check_table(case, table)

    def test_open_and_full_sorts(self):
        for house in (ALL_OPEN, FULL, (("a", 6, 6), ("b", 6, None))):
            for case in cases_of(house):
                table = a_table(case)
                self.assertIs(table is None, come_to(case)[-1] == [])
                if table is not None:
                    self.check_table(case, table)

    def test_some_tables_fit_and_some_do_not(self):
        found = [a_table(case) is None for house in TWO_SORTS for case in cases_of(house)]
        self.assertGreater(found.count(True), 60)
        self.assertGreater(found.count(False), 60)

    def test_no_rungs(self):
        self.assertEqual(a_table((PAIR, (), ())), {"a": (0,), "b": (0,)})
        self.assertEqual(a_table((PAIR, ((A, B), (B, A)), ())), {"a": (0,), "b": (0,)})
        self.assertEqual(a_table((FEW, (), (("is", A, None),))), {"a": (), "b": ()})
        self.assertIsNone(a_table((PAIR, (), (("is", A, None),))))
        table = a_table((FULL, (), (("is", ("rank", ("b",), 4), None), ("is", ("rank", ("a",), 4), None))))
        self.assertIn(table, [{"a": (0,) * 3, "b": (0,) * many} for many in (2, 3)])

    def test_no_rows_at_all(self):
        self.assertEqual(a_table((EMPTY, (), ())), {"a": ()})
        self.assertEqual(a_table((EMPTY, (), (("count", ("a",), 5, 0), ("is", A, None)))), {"a": ()})
        self.assertIsNone(a_table((EMPTY, (), (("is", A, 5),))))
        self.assertEqual(a_table((LOOSE, (), (("is", BEST, None),))), {"a": (), "b": ()})
        self.assertEqual(a_table((LOOSE, ((BEST, ("rank", ("a",), 3)),), ())), {"a": (), "b": ()})

    def test_numbers_far_from_one_another(self):
        case = (PAIR, (), (("is", BEST, BIG), ("is", WORST, -BIG), ("is", A, -BIG)))
        self.assertEqual(a_table(case), {"a": (-BIG,), "b": (BIG,)})

    def test_the_same_call_again(self):
        case = (PAIR, (), (("is", BEST, 5),))
        found = a_table(case)
        expected = dict(found)
        found.clear()
        self.assertEqual(a_table(case), expected)


class CutTest(unittest.TestCase):

    def test_the_told_cut(self):
        cuts = 0
        for house in TWO_SORTS:
            for case in cases_of(house):
                cut = cut_of(case)
                if cut is not None:
                    cuts += 1
                    self.assertIsInstance(cut, list)
                    self.assertIs(is_cut(case, cut), True)
                    self.assertIs(plain_is_cut(case, cut), True)
                self.assertIs(is_cut(case, come_to(case)), cut is not None)
        self.assertGreater(cuts, 60)

    def test_the_example(self):
        self.assertIsNotNone(cut_of((PAIR, (), (("is", A, 5), ("is", BEST, 4)))))

    def test_cuts_against_the_words(self):
        right = wrong = 0
        for house in (PAIR, MIXED, OPEN, FULL):
            for case in cases_of(house):
                for thing in cuts_about(case):
                    expected = plain_is_cut(case, thing)
                    self.assertIs(is_cut(case, thing), expected, (case, thing))
                    self.assertFalse(expected and a_table(case) is not None)
                    right, wrong = right + expected, wrong + (not expected)
        self.assertGreater(min(right, wrong), 300)

    def test_more_counts_ask_for_more_behind_them(self):
        case = (PAIR, (), (("is", A, 1), ("is", A, 2)))
        self.assertEqual(cut_of(case), [[(1, 0), (1, 1)], [], []])
        self.assertEqual(ladder_of(case), [[(1, 0), (1, 1)], [], [(0, 0), (0, 1)]])
        for extra in ([(0, 0)], [(0, 1)], [(0, 1), (0, 0)]):
            self.assertIs(is_cut(case, [[(1, 1), (1, 0)] + extra, [], []]), True)
            self.assertIs(is_cut(case, [[(1, 1), (1, 0)], extra, []]), False)
            self.assertIs(is_cut(case, [[(1, 1)] + extra, [], []]), False)

    def test_one_level(self):
        case = (PAIR, (), (("is", A, None),))
        self.assertEqual(cut_of(case), [[]])
        self.assertEqual([is_cut(case, [[]]), is_cut(case, []), is_cut(case, [[], []]), is_cut(case, [[(0, 0)]])],
                         [True, False, False, False])
        self.assertIs(is_cut((PAIR, (), ()), [[]]), False)

    def test_parts_of_another_kind(self):
        case = (MIXED, (), (("is", A, 1), ("is", A, 2), ("is", BEST, 2)))
        cut = cut_of(case)
        self.assertIs(is_cut(case, cut), True)
        things = [tuple(cut), [tuple(cut[0])] + cut[1:], cut[:-1] + [()], cut[:-1] + [{}], cut[:-1] + [None], [cut], {0: cut}]
        for at, counts in enumerate(cut[0]):
            for other in (list(counts), (True,) + counts[1:], counts + (0,), counts[:1], (-1,) + counts[1:], (2, 0), (0, 3), None,
                          (None, 1), "ab", ("1", 1), 5, (counts,), {}):
                things.append([cut[0][:at] + [other] + cut[0][at + 1:]] + cut[1:])
                things.append([cut[0] + [other]] + cut[1:])
        for thing in things:
            before = copy.deepcopy(thing)
            self.assertIs(is_cut(case, thing), False, thing)
            self.assertEqual(thing, before)

    def test_counts_beyond_the_caps(self):
        case = (ALL_OPEN, (), (("is", A, 1), ("is", A, 2)))
        cut = cut_of(case)
        self.assertIs(is_cut(case, [cut[0] + [(0, 1)]] + cut[1:]), True)
        self.assertIs(is_cut(case, [cut[0] + [(0, 2)]] + cut[1:]), False)
        self.assertIs(is_cut(case, [cut[0] + [(0, 0), (2, 1)]] + cut[1:]), False)

    def test_any_value(self):
        for case in ((PAIR, (), ()), (PAIR, (), (("is", A, None),)), (PAIR, (), (("is", A, 1), ("is", BEST, 0)))):
            for thing in ODD_VALUES:
                before = thing if isinstance(thing, CountError) else copy.deepcopy(thing)
                self.assertIs(is_cut(case, thing), thing == [[]] and case[2][:1] == (("is", A, None),))
                self.assertEqual(thing, before)

    def test_lists_are_new(self):
        case = (PAIR, (), (("is", A, 5), ("is", BEST, 4), ("count", ("b",), 0, 0)))
        found, expected = cut_of(case), cut_of(case)
        for one, other in itertools.combinations(found, 2):
            self.assertIsNot(one, other)
        for level in found:
            level.append((0, 0))
        found.append([])
        self.assertEqual(cut_of(case), expected)


class TooManyTest(unittest.TestCase):

    def test_just_200_counts_and_more(self):
        just = (("a", 0, 9), ("b", 0, 9), ("c", 0, 1))
        case = (just, (), (("count", ("c",), 5, 8),))
        self.assertEqual([len(come_to(case)), starts_of(case)[0], a_table(case), is_cut(case, cut_of(case))],
                         [3, (0, 0, 0), None, True])
        self.assertIs(is_cut(case, None), False)
        three = (("a", 0, None), ("b", 0, None), ("c", 0, None))
        deep = ("rank", ("a",), 5)
        beyond = [
            ((("a", 0, 6), ("b", 0, 5), ("c", 0, 4)), (), (("count", ("b",), 1, 5),)), (three, ((deep, A),), ()),
            (three, (), (("is", deep, None),)), (three, (), (("count", ("a",), 1, 4), ("is", A, 5), ("is", A, 4)))]
        for case in beyond:
            for call in (starts_of, come_to, a_table, cut_of):
                self.check_too_many(call, case)
            for thing in (None, [], [[]], [[], []], 5, {"a": []}, "cut", CountError()):
                self.check_too_many(is_cut, case, thing)

    def check_too_many(self, call, *arguments):
        with self.assertRaises(TooMany) as caught:
            call(*arguments)
        self.assertEqual(caught.exception.most, 200)


if __name__ == "__main__":
    unittest.main()
