"""Tests of [30]: readings."""

import itertools
import unittest

from countsfall.always import always_pairs, are_always_pairs, tells_always
from countsfall.errors import NotTold, TooMany
from countsfall.readings import read_by, reading
from countsfall.tables import value_of
from countsfall.ways import holds
from tests.samples import A, ALL_OPEN, B, BEST, EMPTY, FIRM, LOOSE, MIXED, OPEN, PAIR, TOP, WORST, tables_with
from tests.test_always import ASKS, FORMULAS, FULL, all_pairs, values_of

HOUSES = (PAIR, MIXED, LOOSE, FIRM, OPEN, ALL_OPEN, FULL)


def plain_reading(house, asks, formula):
    """Return the reading by the words of the document, open sorts having up to four rows more than least."""
    told = {}
    for sizes, counts in all_pairs(house, 4):
        key = (tuple(holds(house, ask, sizes) for ask in asks), tuple(holds(house, ask, counts) for ask in asks))
        told.setdefault(key, set()).add(holds(house, formula, counts))
    return {key: min(told[key]) for key in sorted(told)}


class ReadingTest(unittest.TestCase):

    def test_the_examples(self):
        told = reading(PAIR, (BEST, WORST, B), A)
        self.assertEqual([told[((True, True, True), (True, False, False))], read_by(told, (5, 2, 2)), read_by(told, (5, 2, 5))],
                         [True, 5, 2])

    def test_keys_against_all_pairs(self):
        many = 0
        for house in HOUSES:
            for asks in ASKS:
                for formula in FORMULAS:
                    if tells_always(house, asks, formula):
                        many += 1
                        found = reading(house, asks, formula)
                        self.assertEqual(found, plain_reading(house, asks, formula))
                        self.assertEqual(list(found), sorted(found))
                        for key in found:
                            self.assertEqual({type(truth) for truth in key[0] + key[1] + (found[key],)}, {bool})
        self.assertGreater(many, 100)

    def test_whatever_sizes(self):
        found = reading(LOOSE, (A, B), BEST)
        self.assertEqual(found, {
            ((False, False), (False, False)): False, ((False, True), (False, False)): False, ((False, True), (False, True)): True,
            ((True, False), (False, False)): False, ((True, False), (True, False)): True, ((True, True), (False, False)): False,
            ((True, True), (False, True)): True, ((True, True), (True, False)): True, ((True, True), (True, True)): True})
        self.assertEqual(list(reading(PAIR, (A,), A)), [((True,), (False,)), ((True,), (True,))])

    def test_no_asks(self):
        for house, formula in ((PAIR, ("rank", ("a",), 2)), (EMPTY, A), (LOOSE, ("rank", ("a", "b"), 4))):
            found = reading(house, (), formula)
            self.assertEqual(found, {((), ()): False})
            self.assertIsNone(read_by(found, ()))

    def test_dicts_are_new(self):
        found = reading(PAIR, (A, B), BEST)
        found.clear()
        self.assertEqual(len(reading(PAIR, (A, B), BEST)), 4)


class ReadByTest(unittest.TestCase):

    def test_values_in_tables(self):
        for house in (PAIR, MIXED, LOOSE, FIRM, OPEN, ALL_OPEN):
            tables = tables_with(house, (-3, 0, 10 ** 30), 2)
            for asks in ASKS:
                for formula in FORMULAS:
                    if tells_always(house, asks, formula):
                        told = reading(house, asks, formula)
                        for table in tables:
                            self.assertEqual(read_by(told, values_of(house, table, asks)), value_of(house, table, formula))

    def test_nothing_and_equal_values(self):
        told = reading(LOOSE, (A, B), BEST)
        found = [read_by(told, values) for values in ((None, None), (None, 4), (-7, None), (4, 4), (-9, -10), (0, 0))]
        self.assertEqual(found, [None, 4, -7, 4, -9, 0])
        worst = reading(LOOSE, (("rank", ("a",), 2), A, B), WORST)
        found = [read_by(worst, values) for values in (
            (None, 4, None), (3, 4, None), (3, 4, 4), (None, None, 2), (0, 5, 1))]
        self.assertEqual(found, [None, 3, 4, None, 1])

    def test_a_reading_without_true_at_the_keys(self):
        self.assertEqual([read_by({}, (5, None)), read_by({((True,), (True,)): False}, (5,))], [None, None])

    def test_keys_in_any_order(self):
        told = reading(PAIR, (BEST, WORST, B), A)
        turned = {key: told[key] for key in reversed(list(told))}
        for values in ((5, 2, 2), (5, 2, 5), (3, 3, 3)):
            before = dict(turned)
            self.assertEqual(read_by(turned, values), read_by(told, values))
            self.assertEqual(list(turned.items()), list(before.items()))


class ErrorsTest(unittest.TestCase):

    def test_not_told(self):
        for house in HOUSES:
            for asks, formula in itertools.product(ASKS, FORMULAS):
                if not tells_always(house, asks, formula):
                    with self.assertRaises(NotTold) as caught:
                        reading(house, asks, formula)
                    self.assertIs(are_always_pairs(house, asks, formula, caught.exception.pairs), True)
                    self.assertEqual(caught.exception.pairs, always_pairs(house, asks, formula))

    def test_too_many_ahead_of_not_told(self):
        three, deep = (("a", 0, None), ("b", 0, None), ("c", 0, None)), ("rank", ("c",), 5)
        for asks, formula in (((deep,), A), ((A, deep), B), ((), deep), ((TOP,), deep)):
            with self.assertRaises(TooMany) as caught:
                reading(three, asks, formula)
            self.assertEqual(caught.exception.most, 200)
        just = (("a", 0, 9), ("b", 0, 9), ("c", 0, 1))
        self.assertEqual(len(reading(just, (("rank", ("a", "b"), 9),), ("rank", ("a", "b"), 9))), 3)


if __name__ == "__main__":
    unittest.main()
