"""Tests of [19]: ways."""

import copy
import itertools
import unittest

from countsfall.errors import CountError, TooMany
from countsfall.forms import is_formula
from countsfall.ways import are_ways, holds, holds_by, ways_formula, ways_of
from tests.samples import (
    ALL_OPEN, EMPTY, FIRM, HOUSES, LOOSE, MIXED, ODD_VALUES, OPEN, PAIR, broken, counts_within, formulas_of, is_within,
    plain_caps)

HOUSE = (("a", 1, 1), ("b", 0, 2), ("c", 2, None))
A, B, C = ("rank", ("a",), 1), ("rank", ("b",), 1), ("rank", ("c",), 1)


def plain_ways(house, formula):
    """Return the ways of a formula by the words of the document."""
    held = [counts for counts in counts_within(plain_caps(house, [formula])) if holds(house, formula, counts)]
    return [way for way in held if not any(is_within(other, way) and other != way for other in held)]


class HoldsTest(unittest.TestCase):

    def test_ranks(self):
        rank = ("rank", ("a", "c"), 3)
        found = [holds(HOUSE, rank, counts) for counts in ((0, 2, 3), (1, 0, 2), (1, 2, 1), (0, 0, 2), (0, 0, 10 ** 9))]
        self.assertEqual(found, [True, True, False, False, True])
        self.assertIs(holds(HOUSE, A, (0, 0, 0)), False)

    def test_kth_formulas(self):
        formulas = (A, B, C)
        for counts in counts_within((1, 1, 1)):
            for k in (1, 2, 3):
                self.assertIs(holds(HOUSE, ("kth", k, formulas), counts), sum(counts) >= k)
        twice = (A, A, B)
        found = [holds(HOUSE, ("kth", k, twice), (1, 0, 0)) for k in (1, 2, 3)]
        self.assertEqual(found, [True, True, False])

    def test_never_at_the_zero_counts(self):
        for house in HOUSES:
            for formula in formulas_of(house):
                self.assertIs(holds(house, formula, (0,) * len(house)), False)


class WaysTest(unittest.TestCase):

    def test_the_examples(self):
        best, worst = ("rank", ("a", "b"), 1), ("rank", ("a", "b"), 2)
        self.assertEqual([ways_of(PAIR, best), ways_of(PAIR, worst)], [[(0, 1), (1, 0)], [(1, 1)]])
        self.assertEqual(ways_formula(PAIR, ((1, 1),)), ("kth", 2, (("rank", ("a",), 1), ("rank", ("b",), 1))))
        self.assertEqual(ways_of((("a", 0, None), ("b", 2, 3)), ("rank", ("a", "b"), 2)), [(0, 2), (1, 1), (2, 0)])

    def test_against_all_counts(self):
        for house in HOUSES:
            for formula in formulas_of(house, 3):
                ways = ways_of(house, formula)
                self.assertEqual(ways, plain_ways(house, formula))
                self.assertIs(are_ways(house, tuple(ways)), True)
                caps = tuple(cap + 1 if most is None else most for cap, (_, _, most) in zip(plain_caps(house, [formula]), house))
                for counts in counts_within(caps):
                    self.assertIs(holds_by(tuple(ways), counts), holds(house, formula, counts))

    def test_least_does_not_matter(self):
        self.assertEqual(ways_of(FIRM, ("rank", ("b",), 1)), [(0, 1)])
        self.assertEqual(ways_of((("a", 5, None),), ("rank", ("a",), 3)), [(3,)])

    def test_nothing_in_all_tables_has_no_way(self):
        for house, formula in ((PAIR, ("rank", ("a",), 2)), (EMPTY, A), (MIXED, ("kth", 2, (A, ("rank", ("a", "b"), 4))))):
            self.assertEqual(ways_of(house, formula), [])

    def test_more_than_200_counts(self):
        just = (("a", 0, 9), ("b", 3, 9), ("c", 0, 1))
        self.assertEqual(len(ways_of(just, ("rank", ("a", "b", "c"), 9))), 19)
        self.assertEqual(len(ways_of(just, ("kth", 1, (A, ("rank", ("a", "b", "c"), 30))))), 1)
        beyond = (
            ((("a", 0, 6), ("b", 0, 5), ("c", 0, 4)), ("rank", ("a",), 6)),
            ((("a", 0, None), ("b", 0, None), ("c", 0, None)), ("kth", 1, (A, ("rank", ("b",), 5)))),
            (just[:2] + (("c", 0, 2),), ("rank", ("b",), 9)))
        for house, formula in beyond:
            with self.assertRaises(TooMany) as caught:
                ways_of(house, formula)
            self.assertEqual(caught.exception.most, 200)
        less_deep = ("kth", 9, (("rank", ("a",), 4),) * 9)
        self.assertEqual(ways_of(beyond[1][0], less_deep), [(4, 0, 0)])
        self.assertEqual(ways_of(beyond[0][0], ("rank", ("a",), 5)), [(5, 0, 0)])

    def test_lists_are_new(self):
        found = ways_of(PAIR, A)
        found.append(None)
        self.assertEqual(ways_of(PAIR, A), [(1, 0)])


class AreWaysTest(unittest.TestCase):

    def test_ways(self):
        right = [((1, 2, 0),), ((0, 0, 9), (0, 1, 4), (1, 2, 3)), ((0, 1, 0), (1, 0, 0)), ()]
        for thing in right:
            self.assertIs(are_ways(HOUSE, thing), True, thing)

    def test_no_ways(self):
        wrong = [
            ((0, 0, 0),), ((0, 0, 0), (1, 0, 0)), ((1, 0, 0), (0, 1, 0)), ((1, 0, 0), (1, 0, 0)), ((0, 1, 0), (1, 1, 0)),
            ((0, 0, 5), (0, 1, 5)), ((0, 1, 0), (0, 2, 0)), ((2, 0, 0),), ((0, 3, 0),), ((0, 0, -1),), ((0, 1),), ((0, 1, 0, 0),),
            ((True, 0, 0),), [(1, 0, 0)], ([1, 0, 0],), (1, 0, 0), ((1, 0, None),), None, {(1, 0, 0): 1}, ((0, 1, 3), (1, 0, 2), (1, 1, 2))]
        for thing in wrong:
            self.assertIs(are_ways(HOUSE, thing), False, thing)
        for thing in broken(((0, 0, 9), (0, 1, 4), (1, 2, 3))):
            self.assertIs(are_ways(HOUSE, thing), False, thing)

    def test_no_ways_at_all(self):
        self.assertEqual([are_ways(house, ()) for house in (PAIR, OPEN, ALL_OPEN, EMPTY)], [True, True, False, True])
        self.assertIs(are_ways((("a", 0, None),), ()), False)
        self.assertIs(are_ways(ALL_OPEN, ((1, 0),)), True)

    def test_all_sets_of_counts(self):
        for house in (PAIR, MIXED, LOOSE):
            counts = counts_within(tuple(sort[2] for sort in house))
            for many in range(1, 4):
                for chosen in itertools.combinations(counts, many):
                    apart = not any(is_within(one, other) for one, other in itertools.permutations(chosen, 2))
                    self.assertIs(are_ways(house, chosen), apart and any(chosen[0]))
                    self.assertIs(are_ways(house, chosen[::-1]), many == 1 and any(chosen[0]))

    def test_any_value(self):
        for thing in ODD_VALUES:
            before = thing if isinstance(thing, CountError) else copy.deepcopy(thing)
            self.assertIs(are_ways(MIXED, thing), thing in ((), ((1, 1),)))
            self.assertEqual(thing, before)

    def test_many_ways(self):
        house = (("a", 0, None), ("b", 0, None))
        ways = tuple((place, 990 - place) for place in range(990))
        self.assertIs(are_ways(house, ways), True)
        self.assertIs(are_ways(house, ways[:-1] + ((989, 2),)), False)

    def test_holds_by(self):
        ways = ((0, 1, 4), (1, 2, 0))
        found = [holds_by(ways, counts) for counts in ((0, 1, 4), (1, 2, 0), (1, 1, 3), (0, 2, 9), (1, 2, 9), (0, 0, 9))]
        self.assertEqual(found, [True, True, False, True, True, False])
        self.assertIs(holds_by((), (1, 2, 50)), False)


class ToldFormTest(unittest.TestCase):

    def test_the_forms(self):
        a1, b2, c3 = ("rank", ("a",), 1), ("rank", ("b",), 2), ("rank", ("c",), 3)
        self.assertEqual(ways_formula(HOUSE, ((0, 2, 0),)), b2)
        self.assertEqual(ways_formula(HOUSE, ((1, 0, 3),)), ("kth", 2, (a1, c3)))
        self.assertEqual(ways_formula(HOUSE, ((1, 2, 3),)), ("kth", 3, (a1, b2, c3)))
        self.assertEqual(ways_formula(HOUSE, ((0, 0, 3), (1, 2, 0))), ("kth", 1, (c3, ("kth", 2, (a1, b2)))))
        self.assertEqual(ways_formula(HOUSE, ((0, 0, 3), (0, 2, 0), (1, 0, 0))), ("kth", 1, (c3, b2, a1)))

    def test_the_form_of_no_ways(self):
        self.assertEqual(ways_formula(HOUSE, ()), ("rank", ("a", "b"), 4))
        self.assertEqual(ways_formula(OPEN, ()), ("rank", ("b",), 3))
        self.assertEqual(ways_formula(EMPTY, ()), ("rank", ("a",), 1))

    def test_it_has_just_these_ways(self):
        for house in HOUSES:
            for formula in formulas_of(house):
                ways = tuple(ways_of(house, formula))
                told = ways_formula(house, ways)
                self.assertIs(is_formula(house, told), True)
                self.assertEqual(ways_of(house, told), list(ways))


if __name__ == "__main__":
    unittest.main()
