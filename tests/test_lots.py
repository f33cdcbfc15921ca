"""Tests of [31] and of [8]: least lots of asks."""

import itertools
import unittest

from countsfall.always import always_pairs, are_always_pairs, tells_always
from countsfall.errors import NotTold, TooMany
from countsfall.lots import least_lots, needed_asks, same_always
from tests.samples import A, ALL_OPEN, B, BEST, EMPTY, FIRM, LOOSE, MIXED, OPEN, PAIR, TOP, WORST, tables_with
from tests.test_always import FORMULAS, FULL, THREE, plain_tells

CELLS = (("a", 1, 1), ("b", 1, 1), ("c", 1, 1))
HOUSES = (PAIR, MIXED, LOOSE, FIRM, OPEN, ALL_OPEN, FULL)
ASKS = ((), (A,), (A, B), (BEST, WORST, B), (A, B, A), (BEST, WORST, A, B, TOP), (WORST, THREE, A, BEST, B, A),
        (THREE, TOP, WORST))
NEVER = ("rank", ("a",), 9)


def all_lots(many):
    """Return all ascending tuples of indexes below many."""
    return [lot for size in range(many + 1) for lot in itertools.combinations(range(many), size)]


def plain_least(house, asks, formula, tables):
    """Return the least lots of asks by these tables."""
    good = [lot for lot in all_lots(len(asks)) if plain_tells(house, tuple(asks[k] for k in lot), formula, tables)]
    return sorted(lot for lot in good if not any(set(other) < set(lot) for other in good))


class LeastLotsTest(unittest.TestCase):

    def test_the_examples(self):
        self.assertEqual([least_lots(PAIR, (BEST, WORST, B), A), needed_asks(PAIR, (A, B, A), A)],
                         [[(0, 1, 2)], {0: "sometimes", 1: "never", 2: "sometimes"}])

    def test_against_all_lots(self):
        seen = set()
        for house in HOUSES:
            tables = tables_with(house, (1, 2), 3)
            for asks, formula in itertools.product(ASKS, FORMULAS):
                expected = plain_least(house, asks, formula, tables)
                self.assertEqual(least_lots(house, asks, formula), expected, (house, asks, formula))
                seen.update(self.check_needed(house, asks, formula, expected))
        self.assertEqual(seen, {"always", "sometimes", "never"})

    def check_needed(self, house, asks, formula, lots):
        if not lots:
            with self.assertRaises(NotTold) as caught:
                needed_asks(house, asks, formula)
            self.assertIs(are_always_pairs(house, asks, formula, caught.exception.pairs), True)
            self.assertEqual(caught.exception.pairs, always_pairs(house, asks, formula))
            return []
        found = needed_asks(house, asks, formula)
        self.assertEqual(list(found), list(range(len(asks))))
        for index in found:
            among = [index in lot for lot in lots]
            self.assertEqual(found[index], "always" if all(among) else "sometimes" if any(among) else "never")
        return found.values()

    def test_asks_that_stand_twice(self):
        self.assertEqual(least_lots(PAIR, (A, A), A), [(0,), (1,)])
        self.assertEqual(least_lots(PAIR, (BEST, B, BEST, WORST), A), [(0, 1, 3), (1, 2, 3)])
        self.assertEqual(needed_asks(PAIR, (BEST, B, BEST, WORST), A), {0: "sometimes", 1: "always", 2: "sometimes", 3: "always"})

    def test_not_told_and_nothing(self):
        self.assertEqual([least_lots(PAIR, (BEST, WORST), A), least_lots(PAIR, (), A)], [[], []])
        self.assertEqual([least_lots(PAIR, (), NEVER), least_lots(PAIR, (A, B), NEVER), least_lots(EMPTY, (A,), A)], [[()]] * 3)
        self.assertEqual(needed_asks(PAIR, (A, B), NEVER), {0: "never", 1: "never"})
        self.assertEqual(needed_asks(PAIR, (), NEVER), {})

    def test_eight_asks(self):
        ranks = tuple(("rank", lot, 1) for lot in (("a",), ("b",), ("c",), ("a", "b"), ("a", "c"), ("b", "c"), ("a", "b", "c")))
        tables = tables_with(CELLS, (1, 2))
        for asks in (ranks + (A,), ranks[3:] + ranks[3:], ranks[:3] + (("kth", 2, ranks[:3]),) * 5):
            for formula in (A, ranks[-1], ("rank", ("a", "b", "c"), 3)):
                self.assertEqual(least_lots(CELLS, asks, formula), plain_least(CELLS, asks, formula, tables))

    def test_results_are_new(self):
        found, needed = least_lots(PAIR, (A, A), A), needed_asks(PAIR, (A, A), A)
        found.clear()
        needed.clear()
        self.assertEqual([least_lots(PAIR, (A, A), A), needed_asks(PAIR, (A, A), A)],
                         [[(0,), (1,)], {0: "sometimes", 1: "sometimes"}])


class SameTest(unittest.TestCase):

    def test_against_each_formula(self):
        same = 0
        for house in HOUSES:
            for one, other in itertools.product(ASKS, ASKS):
                expected = all(tells_always(house, other, formula) for formula in one)
                expected = expected and all(tells_always(house, one, formula) for formula in other)
                self.assertIs(same_always(house, one, other), expected)
                same += expected and one != other
        self.assertGreater(same, 20)

    def test_asks_that_are_alike(self):
        self.assertIs(same_always(PAIR, (BEST, WORST), (("kth", 2, (A, B)), ("kth", 1, (B, A)))), True)
        self.assertIs(same_always(PAIR, (A, B), (B, A, BEST, WORST)), True)
        self.assertIs(same_always(PAIR, (BEST, WORST, A), (B, A)), True)
        self.assertEqual([same_always(PAIR, (BEST, WORST), (B, A)), same_always(PAIR, (B, A), (BEST, WORST))], [False, False])
        self.assertIs(same_always(PAIR, (A, A), (A,)), True)

    def test_both_ways_about(self):
        self.assertEqual([same_always(PAIR, (A, B), (BEST,)), same_always(PAIR, (BEST,), (A, B))], [False, False])
        self.assertEqual([same_always(PAIR, (), (A,)), same_always(PAIR, (A,), ())], [False, False])

    def test_empty_asks(self):
        self.assertIs(same_always(PAIR, (), ()), True)
        self.assertEqual([same_always(PAIR, (), (NEVER,)), same_always(PAIR, (NEVER, THREE), ())], [True, True])


class TooManyTest(unittest.TestCase):

    def check(self, most, call, *arguments):
        with self.assertRaises(TooMany) as caught:
            call(*arguments)
        self.assertEqual(caught.exception.most, most)

    def test_nine_asks_ahead_of_all_else(self):
        three, deep = (("a", 0, None), ("b", 0, None), ("c", 0, None)), ("rank", ("c",), 5)
        for call in (least_lots, needed_asks):
            self.check(8, call, three, (A,) * 9, deep)
            self.check(8, call, three, (deep,) * 9, A)
            self.check(8, call, PAIR, (B,) * 9, A)
            self.check(200, call, three, (A,) * 8, deep)
            self.check(200, call, three, (A, deep), B)
        self.assertEqual(least_lots(PAIR, (A,) * 8, A), [(k,) for k in range(8)])
        self.assertIs(same_always(PAIR, (A,) * 9, (A,)), True)

    def test_caps_by_all_asks(self):
        three, deep = (("a", 0, None), ("b", 0, None), ("c", 0, None)), ("rank", ("c",), 5)
        self.check(200, same_always, three, (A, deep), (B,))
        self.check(200, same_always, three, (), (B, deep))
        self.check(200, same_always, (("a", 0, 6), ("b", 0, 5), ("c", 0, 4)), (A,), (("rank", ("a",), 6),))
        five = tuple((name, 0, None) for name in "abcde")
        self.assertIs(same_always(five, (), ()), True)
        just = (("a", 0, 9), ("b", 0, 9), ("c", 0, 1))
        self.assertIs(same_always(just, (("rank", ("a", "b"), 9),), (A,)), False)


if __name__ == "__main__":
    unittest.main()
