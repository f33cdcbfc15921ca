"""Tests of [22] and of depth and caps in [4]: levels."""

import unittest

from countsfall.levels import caps_of, depth_of, level_of, rungs_of
from tests.samples import ALL_OPEN, EMPTY, MIXED, OPEN

A, B = ("rank", ("a",), 1), ("rank", ("b",), 4)
BIG = 10 ** 30


class RungsTest(unittest.TestCase):

    def test_rungs_of_each_kind_of_answer(self):
        self.assertEqual(rungs_of(()), [])
        self.assertEqual(rungs_of((("is", A, 5),)), [5])
        self.assertEqual(rungs_of((("is", A, None),)), [])
        self.assertEqual(rungs_of((("count", ("a",), 5, 3),)), [4, 5])
        self.assertEqual(rungs_of((("is", A, 0), ("count", ("a",), 0, 0))), [-1, 0])

    def test_each_rung_once_and_ascending(self):
        answers = (("is", A, 9), ("count", ("a",), 10, 1), ("is", B, None), ("count", ("b",), -BIG, 2), ("is", B, 9))
        self.assertEqual(rungs_of(answers), [-BIG - 1, -BIG, 9, 10])
        self.assertEqual(rungs_of((("count", ("a",), 3, 1), ("is", B, -2), ("is", A, -1))), [-2, -1, 2, 3])

    def test_the_example(self):
        answers = (("is", ("rank", ("a", "b"), 1), 5), ("count", ("b",), 3, 1))
        self.assertEqual([rungs_of(answers), level_of([2, 3, 5], 4), caps_of((("a", 1, 1), ("b", 0, None)), 2)],
                         [[2, 3, 5], 2, (1, 2)])

    def test_levels(self):
        rungs = [-4, 2, 3, 7]
        found = [level_of(rungs, number) for number in (-BIG, -5, -4, -3, 1, 2, 3, 4, 6, 7, 8, BIG)]
        self.assertEqual(found, [0, 0, 0, 1, 1, 1, 2, 3, 3, 3, 4, 4])
        self.assertEqual([level_of([], number) for number in (-BIG, 0, BIG)], [0, 0, 0])
        self.assertEqual([level_of(rungs, rung) for rung in rungs], [0, 1, 2, 3])

    def test_lists_are_new_and_arguments_stay(self):
        answers = (("is", A, 5),)
        found = rungs_of(answers)
        found.append(6)
        self.assertEqual(rungs_of(answers), [5])
        rungs = [1, 2]
        level_of(rungs, 7)
        self.assertEqual(rungs, [1, 2])


class CapsTest(unittest.TestCase):

    def test_depth(self):
        self.assertEqual([depth_of((), ()), depth_of((A,), ()), depth_of((A, B, A), ())], [1, 1, 4])
        self.assertEqual(depth_of((("kth", 3, (A, A, A)),), ()), 1)
        self.assertEqual(depth_of((("kth", 1, (A, ("kth", 2, (A, B)))),), ()), 4)
        self.assertEqual(depth_of((), (("is", B, None),)), 4)
        self.assertEqual(depth_of((A,), (("is", ("kth", 1, (B,)), 9), ("count", ("a",), 50, 2))), 4)
        self.assertEqual([depth_of((), (("count", ("a",), 50, many),)) for many in (0, 1, 3, 9)], [1, 2, 4, 10])
        self.assertEqual(depth_of((B,), (("count", ("a",), 50, 4), ("is", A, 1))), 5)

    def test_caps(self):
        self.assertEqual([caps_of(MIXED, depth) for depth in (1, 2, 3)], [(1, 1), (1, 2), (1, 2)])
        self.assertEqual([caps_of(OPEN, depth) for depth in (1, 2, 3)], [(1, 1), (2, 2), (3, 2)])
        self.assertEqual([caps_of(ALL_OPEN, 7), caps_of(EMPTY, 7)], [(7, 7), (0,)])

    def test_caps_beyond_200_counts(self):
        house = (("a", 9, 9), ("b", 0, None), ("c", 0, 8), ("d", 6, None), ("e", 0, 0))
        self.assertEqual([caps_of(house, 10), caps_of(house, 9)], [(9, 10, 8, 10, 0), (9, 9, 8, 9, 0)])


if __name__ == "__main__":
    unittest.main()
