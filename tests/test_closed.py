"""Tests of [32]: all that is told of firm houses."""

import itertools
import unittest

from countsfall.always import tells_always
from countsfall.closed import all_told, bounds_told
from countsfall.errors import NotFirm, TooMany
from countsfall.likeness import is_never_above
from countsfall.ways import are_ways, holds, ways_formula, ways_of
from tests.samples import A, B, BEST, EMPTY, FIRM, HELD, LOOSE, MIXED, OPEN, PAIR, WORST, counts_within, formulas_of

NEVER = ("rank", ("a",), 9)
THREE = ("rank", ("a", "b"), 3)
ROW = (("a", 3, 3),)
CELLS = (("a", 1, 1), ("b", 1, 1), ("c", 1, 1))
HOUSES = (PAIR, FIRM, EMPTY, ROW, CELLS, (("a", 0, 0), ("b", 2, 2)), (("a", 2, 2), ("b", 2, 2)))
ASKS = ((), (A,), (A, A), (NEVER,), (BEST, WORST), (A, B), (WORST, A), (BEST, WORST, B), (THREE, B), (THREE, WORST, A))


def asks_of_house(house):
    """Return asks of a house that has perhaps just one sort."""
    if len(house) == 1:
        ranks = [("rank", ("a",), k) for k in range(1, 5)]
        return [lot for many in range(4) for lot in itertools.combinations(ranks, many)]
    return list(ASKS) + ([ASKS[-1] + (("rank", ("b", "c"), 1),), (("rank", ("c",), 1),)] if len(house) == 3 else [])


def all_ways(house):
    """Return all ways of a small firm house: all ascending lots of its counts that are such."""
    counts = counts_within(tuple(sort[2] for sort in house))
    lots = [lot for many in range(5) for lot in itertools.combinations(counts, many)]
    return [lot for lot in lots if are_ways(house, lot)]


def plain_told(house, asks):
    """Return the ways of all formulas that asks tell, by the patterns of all counts."""
    told = []
    for ways in all_ways(house):
        formula, truths = ways_formula(house, ways), {}
        for counts in counts_within(tuple(sort[2] for sort in house)):
            pattern = tuple(holds(house, ask, counts) for ask in asks)
            truths.setdefault(pattern, set()).add(holds(house, formula, counts))
        if all(len(truth) == 1 for truth in truths.values()):
            told.append(ways)
    return sorted(told)


class AllToldTest(unittest.TestCase):

    def test_the_examples(self):
        self.assertEqual([all_told(PAIR, (BEST, WORST)), bounds_told(PAIR, (BEST, WORST), A)],
                         [[(), ((0, 1), (1, 0)), ((1, 1),)], (((1, 1),), ((0, 1), (1, 0)))])

    def test_against_all_lots_of_counts(self):
        for house in HOUSES:
            for asks in asks_of_house(house):
                found = all_told(house, asks)
                self.assertEqual(found, plain_told(house, asks), (house, asks))
                for ask in asks:
                    self.assertIn(tuple(ways_of(house, ask)), found)

    def test_just_what_is_told_always(self):
        for house in (PAIR, FIRM, ROW, EMPTY):
            for asks in asks_of_house(house):
                expected = [ways for ways in all_ways(house) if tells_always(house, asks, ways_formula(house, ways))]
                self.assertEqual(all_told(house, asks), sorted(expected))

    def test_no_asks(self):
        for house in HOUSES:
            self.assertEqual([all_told(house, ()), all_told(house, (NEVER,))], [[()], [()]])

    def test_lists_are_new(self):
        found = all_told(PAIR, (A,))
        found.clear()
        self.assertEqual(all_told(PAIR, (A,)), [(), ((1, 0),)])


class BoundsTest(unittest.TestCase):

    def test_against_all_that_is_told(self):
        seen = set()
        for house in HOUSES:
            formulas = formulas_of(house)[::3] if len(house) < 3 else formulas_of(house, 1)[::5]
            for asks in asks_of_house(house):
                told = all_told(house, asks)
                for formula in formulas + [ways_formula(house, ways) for ways in all_ways(house)[::9]]:
                    under, over = bounds_told(house, asks, formula)
                    seen.add((over is None, under == over))
                    self.check_bound(house, told, under, [ways for ways in told if self.is_below(house, ways, formula)], True)
                    above = [ways for ways in told if self.is_above(house, ways, formula)]
                    self.assertIs(over is None, above == [])
                    if above:
                        self.check_bound(house, told, over, above, False)
        self.assertEqual(seen, {(True, False), (False, True), (False, False)})

    def is_below(self, house, ways, formula):
        return is_never_above(house, ways_formula(house, ways), formula)

    def is_above(self, house, ways, formula):
        return is_never_above(house, formula, ways_formula(house, ways))

    def check_bound(self, house, told, bound, among, greatest):
        self.assertIn(bound, among)
        for ways in among:
            low, high = (ways, bound) if greatest else (bound, ways)
            self.assertIs(self.is_below(house, low, ways_formula(house, high)), True)

    def test_told_formulas_are_their_own_bounds(self):
        for house in (PAIR, FIRM, CELLS):
            for asks in asks_of_house(house):
                for ways in all_told(house, asks):
                    self.assertEqual(bounds_told(house, asks, ways_formula(house, ways)), (ways, ways))

    def test_none_and_nothing(self):
        self.assertEqual(bounds_told(PAIR, (), A), ((), None))
        self.assertEqual(bounds_told(PAIR, (B,), A), ((), None))
        self.assertEqual(bounds_told(PAIR, (WORST,), A), (((1, 1),), None))
        self.assertEqual(bounds_told(PAIR, (BEST,), A), ((), ((0, 1), (1, 0))))
        self.assertEqual([bounds_told(PAIR, (), NEVER), bounds_told(EMPTY, (A,), A)], [((), ()), ((), ())])


class ErrorsTest(unittest.TestCase):

    def calls(self, house, asks):
        return [lambda: all_told(house, asks), lambda: bounds_told(house, asks, A)]

    def test_not_firm(self):
        huge = (("a", 9, 9), ("b", 9, 9), ("c", 8, 9), ("d", 0, None))
        for house, name in ((MIXED, "b"), (LOOSE, "a"), (HELD, "b"), (OPEN, "a"), (huge, "c"), ((("a", 2, None),), "a")):
            for call in self.calls(house, ()):
                with self.assertRaises(NotFirm) as caught:
                    call()
                self.assertEqual(caught.exception.name, name)

    def test_more_than_200_counts(self):
        # More than 500 are told here, too.
        many = tuple(("rank", ("a",), k) for k in range(1, 7)) + tuple(("rank", ("b",), k) for k in range(1, 6))
        for house in ((("a", 6, 6), ("b", 5, 5), ("c", 4, 4)), (("a", 200, 200),), (("a", 9, 9), ("b", 9, 9), ("c", 2, 2))):
            for call in self.calls(house, ()) + (self.calls(house, many) if len(house) > 1 else []):
                with self.assertRaises(TooMany) as caught:
                    call()
                self.assertEqual(caught.exception.most, 200)
        just = (("a", 9, 9), ("b", 9, 9), ("c", 1, 1))
        self.assertEqual(all_told(just, (A,)), [(), ((1, 0, 0),)])
        # Caps by the asks are not asked for.
        self.assertEqual(all_told(just, (("rank", ("a",), 30),)), [()])
        self.assertEqual(len(all_told((("a", 199, 199),), tuple(("rank", ("a",), k) for k in range(1, 10)))), 10)

    def test_500_told_and_more(self):
        house = (("a", 1, 1), ("b", 1, 1), ("c", 1, 1), ("d", 2, 2))
        all_of = ("a", "b", "c", "d")
        just = (
            ("rank", ("a",), 1), ("rank", ("d",), 2), ("kth", 2, (A, ("rank", ("a", "b", "d"), 4))),
            ("kth", 2, (WORST, ("rank", ("d",), 1), B)), ("rank", ("c",), 1), ("rank", all_of, 4),
            ("kth", 2, (("rank", ("a", "b", "d"), 3), A)), ("rank", ("a", "b", "d"), 2))
        beyond = (
            ("rank", all_of, 3), ("kth", 2, (("rank", ("a", "b", "c"), 2), B, ("rank", ("a", "b", "d"), 4))),
            ("kth", 1, (("rank", all_of, 2), ("rank", ("b", "c"), 1), ("rank", ("b", "c", "d"), 1))),
            ("kth", 1, (("rank", all_of, 4), A, ("rank", all_of, 5))), ("rank", ("b", "d"), 2), WORST, A,
            ("kth", 1, (("rank", all_of, 5), ("rank", ("a", "b", "c"), 2), ("rank", ("c",), 1))), B)
        found = all_told(house, just)
        self.assertEqual([len(found), len(set(found)), found], [500, 500, sorted(found)])
        wide = (("a", 5, 5), ("b", 5, 5))
        ranks = tuple(("rank", (name,), k) for name in "ab" for k in range(1, 6))
        for far, asks in ((house, beyond), (house, just + beyond), (wide, ranks)):
            with self.assertRaises(TooMany) as caught:
                all_told(far, asks)
            self.assertEqual(caught.exception.most, 500)
            self.assertEqual(bounds_told(far, asks, A), (tuple(ways_of(far, A)),) * 2)
        # The up-sets of a grid of four by eight counts, but for the one with the zero counts.
        ranks = tuple(("rank", ("a",), k) for k in range(1, 4)) + tuple(("rank", ("b",), k) for k in range(1, 8))
        self.assertEqual(len(all_told((("a", 3, 3), ("b", 7, 7)), ranks)), 494)


if __name__ == "__main__":
    unittest.main()
