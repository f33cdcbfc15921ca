"""Tests of [23] and of [6]: ladders."""

import itertools
import unittest

from countsfall.errors import TooMany
from countsfall.falls import counts_at
from countsfall.ladders import is_let, ladder_of
from countsfall.levels import caps_of, depth_of, level_of, rungs_of
from countsfall.tables import fits, sizes_of
from countsfall.ways import holds
from tests.samples import ALL_OPEN, FIRM, HELD, LOOSE, MIXED, OPEN, PAIR, cases_of, counts_within, tables_with

A, B = ("rank", ("a",), 1), ("rank", ("b",), 1)
BEST = ("rank", ("a", "b"), 1)
TWO_SORTS = (PAIR, MIXED, LOOSE, FIRM, OPEN, ALL_OPEN)


def plain_let(case, level, counts):
    """Return whether counts are let, by the words of the document."""
    house, facts, answers = case
    rungs = rungs_of(answers)
    for answer in answers:
        if answer[0] == "is" and answer[2] is None:
            good = not holds(house, answer[1], counts)
        elif answer[0] == "is":
            # The greatest number of a level is its rung; the last level has numbers above all.
            none_above = level < len(rungs) and rungs[level] <= answer[2]
            good = holds(house, answer[1], counts) == none_above
        else:
            together = sum(many for sort, many in zip(house, counts) if sort[0] in answer[1])
            good = level_of(rungs, answer[2]) != level or together == answer[3]
        if not good:
            return False
    return all(holds(house, other, counts) or not holds(house, one, counts) for one, other in facts)


class LetTest(unittest.TestCase):

    def test_against_the_words_also_beyond_the_caps(self):
        for house in TWO_SORTS:
            limits = tuple(6 if sort[2] is None else sort[2] for sort in house)
            for case in cases_of(house):
                for level in range(len(rungs_of(case[2])) + 1):
                    for counts in counts_within(limits):
                        self.assertIs(is_let(case, level, counts), plain_let(case, level, counts))

    def test_each_kind_of_answer(self):
        case = (ALL_OPEN, (), (("is", A, 5),))
        self.assertEqual([is_let(case, level, (1, 0)) for level in (0, 1)], [True, False])
        self.assertEqual([is_let(case, level, (0, 9)) for level in (0, 1)], [False, True])
        case = (ALL_OPEN, (), (("is", A, None),))
        self.assertEqual([is_let(case, 0, counts) for counts in ((1, 0), (0, 9))], [False, True])
        case = (ALL_OPEN, (), (("count", ("a", "b"), 5, 2),))
        found = [[is_let(case, level, counts) for level in (0, 1, 2)] for counts in ((1, 1), (1, 0), (50, 50))]
        self.assertEqual(found, [[True, True, True], [True, False, True], [True, False, True]])

    def test_facts(self):
        case = (ALL_OPEN, ((A, B), (("rank", ("b",), 3), A)), ())
        found = [is_let(case, 0, counts) for counts in ((1, 0), (1, 1), (0, 0), (0, 2), (0, 3), (1, 3), (70, 70), (70, 0))]
        self.assertEqual(found, [False, True, True, True, False, True, True, False])

    def test_no_caps_are_asked(self):
        house = tuple((name, 0, None) for name in "abcde")
        case = (house, ((("rank", ("c", "e"), 9), ("rank", ("d",), 9)),), (("is", ("rank", ("a",), 9), 5), ("count", ("b",), 7, 9)))
        self.assertIs(is_let(case, 0, (9, 0, 0, 0, 0)), True)
        self.assertIs(is_let(case, 2, (8, 9, 8, 10 ** 20, 10 ** 20)), True)
        self.assertIs(is_let(case, 2, (8, 8, 8, 10 ** 20, 0)), False)

    def test_beyond_the_caps_is_as_at_the_caps(self):
        for case in cases_of(ALL_OPEN):
            formulas = tuple(formula for fact in case[1] for formula in fact)
            caps = caps_of(ALL_OPEN, depth_of(formulas, case[2]))
            for level in range(len(rungs_of(case[2])) + 1):
                for counts in counts_within((6, 6)):
                    capped = tuple(min(many, cap) for many, cap in zip(counts, caps))
                    self.assertIs(is_let(case, level, counts), is_let(case, level, capped))


class LadderTest(unittest.TestCase):

    def test_the_examples(self):
        case = ((("a", 1, 1), ("b", 0, None)), (), (("is", BEST, 5), ("count", ("b",), 3, 1)))
        self.assertEqual(ladder_of(case)[2], [(0, 1), (0, 2), (1, 0), (1, 1), (1, 2)])
        self.assertEqual(ladder_of(case)[3], [(0, 0)])

    def test_against_all_counts_within_the_caps(self):
        for house in TWO_SORTS:
            for case in cases_of(house):
                formulas = tuple(formula for fact in case[1] for formula in fact)
                caps = caps_of(house, depth_of(formulas, case[2]))
                levels = range(len(rungs_of(case[2])) + 1)
                expected = [[counts for counts in counts_within(caps) if plain_let(case, level, counts)] for level in levels]
                self.assertEqual(ladder_of(case), expected)

    def test_tables_that_fit_fall_through_what_is_let(self):
        for house in TWO_SORTS + (HELD[:1] + (("d", 0, 1),),):
            for case in cases_of(house) if house[0][0] == "a" else [(house, (), (("is", B, 2), ("count", ("d",), 1, 0)))]:
                rungs = rungs_of(case[2])
                for table in tables_with(house, (0, 1, 2), 1):
                    let = is_let(case, 0, sizes_of(house, table))
                    for number in range(-4, 6):
                        let = let and is_let(case, level_of(rungs, number), counts_at(house, table, number))
                    self.assertIs(fits(case, table), let)

    def test_no_answers(self):
        self.assertEqual(ladder_of((PAIR, (), ())), [[(0, 0), (0, 1), (1, 0), (1, 1)]])
        self.assertEqual(ladder_of((PAIR, ((A, B),), ())), [[(0, 0), (0, 1), (1, 1)]])

    def test_formulas_of_facts_count_for_the_caps(self):
        case = (ALL_OPEN, ((A, ("rank", ("b",), 3)),), (("count", ("a",), 0, 1),))
        self.assertEqual(max(counts for level in ladder_of(case) for counts in level), (3, 3))

    def test_lists_are_new(self):
        case = (PAIR, (), (("is", A, 2), ("count", ("b",), 5, 0)))
        found = ladder_of(case)
        for one, other in itertools.combinations(found, 2):
            self.assertIsNot(one, other)
        for level in found:
            level.append(None)
        found.append([])
        self.assertEqual(len(ladder_of(case)), 4)
        self.assertEqual(sum(level.count(None) for level in ladder_of(case)), 0)

    def test_more_than_200_counts(self):
        just = (("a", 0, 9), ("b", 0, 9), ("c", 0, 1))
        self.assertEqual(len(ladder_of((just, (), (("is", ("rank", ("a",), 9), None),)))[0]), 180)
        self.assertEqual(len(ladder_of((just, (), (("count", ("c",), 5, 8),)))[0]), 200)
        three = (("a", 0, None), ("b", 0, None), ("c", 0, None))
        deep = ("rank", ("a",), 5)
        beyond = [
            (three, (), (("is", deep, 4),)), (three, (), (("is", deep, None),)), (three, (), (("count", ("a",), 1, 4),)),
            (three, ((deep, A),), ()), (three, ((A, deep),), (("is", A, 3),)),
            ((("a", 0, 6), ("b", 0, 5), ("c", 0, 4)), (), (("count", ("b",), 1, 5),))]
        for case in beyond:
            with self.assertRaises(TooMany) as caught:
                ladder_of(case)
            self.assertEqual(caught.exception.most, 200)
        self.assertEqual(len(ladder_of((three, (), (("count", ("a",), 1, 3),)))[0]), 125)


if __name__ == "__main__":
    unittest.main()
