"""Tests of [36]: silent lots."""

import itertools
import unittest

from countsfall.errors import TooMany
from countsfall.patterns import rows_of
from countsfall.silent import loud_lots, silent_lots
from countsfall.sometimes import tells_sometimes
from countsfall.tables import value_of
from tests.samples import A, ALL_OPEN, B, BEST, EMPTY, FIRM, LOOSE, MIXED, OPEN, PAIR, TOP, WORST, tables_with
from tests.test_patterns import BEYOND, CELLS, JUST, THREE, WIDE
from tests.test_sometimes import FORMULAS, NEVER, beyond_of, values_of

ASKS = ((A,), (BEST, WORST), (A, A), (WORST, B, A), (BEST, THREE, BEST), (TOP, ("rank", ("b",), 2), WORST), (NEVER, BEST, B))
ALL = ("a", "b", "c")


def all_lots(many):
    """Return all ascending tuples of indexes below many."""
    return [lot for size in range(many + 1) for lot in itertools.combinations(range(many), size)]


def plain_lots(many, is_loud):
    """Return the greatest silent and the least loud lots by the words of the document."""
    lots = all_lots(many)
    loud = [lot for lot in lots if is_loud(lot)]
    silent = [lot for lot in lots if lot not in loud]
    greatest = [lot for lot in silent if not any(set(lot) < set(other) for other in silent)]
    return sorted(greatest), sorted(lot for lot in loud if not any(set(other) < set(lot) for other in loud))


def told_in_some(house, asks, secret, all_tables, some):
    """Return whether asks tell a secret in one of some tables, by all tables."""
    values = {}
    for table in all_tables:
        values.setdefault(values_of(house, table, asks), set()).add(value_of(house, table, secret))
    return any(len(values[values_of(house, table, asks)]) == 1 for table in some)


class LotsTest(unittest.TestCase):

    def test_the_example(self):
        asks = (("rank", ("a", "b"), 1), ("rank", ("a", "c"), 1))
        self.assertEqual(silent_lots(CELLS, asks, B), [(0,), (1,)])
        self.assertEqual(loud_lots(CELLS, asks, B), [(0, 1)])

    def test_against_all_lots_by_all_tables(self):
        for house in (PAIR, MIXED, LOOSE, FIRM):
            all_tables, some = tables_with(house, range(1, 8)), tables_with(house, (2, 4, 6))
            for asks, secret in itertools.product(ASKS, FORMULAS):
                self.check(house, asks, secret, all_tables, some)

    def check(self, house, asks, secret, all_tables, some):
        silent, loud = plain_lots(len(asks), lambda lot: told_in_some(
            house, tuple(asks[k] for k in lot), secret, all_tables, some))
        self.assertEqual(silent_lots(house, asks, secret), silent, (house, asks, secret))
        self.assertEqual(loud_lots(house, asks, secret), loud, (house, asks, secret))

    def test_open_sorts(self):
        all_tables, some = tables_with(OPEN, range(1, 6), beyond_of(OPEN)), tables_with(OPEN, (2, 4), beyond_of(OPEN))
        for asks, secret in itertools.product(ASKS[:3], FORMULAS[:5]):
            self.check(OPEN, asks, secret, all_tables, some)

    def test_against_what_is_told_sometimes(self):
        longer = (("rank", ALL, 1), ("rank", ALL, 3), ("rank", ("a", "b"), 1), ("rank", ("b", "c"), 1), ("rank", ("c",), 1),
                  ("kth", 2, (A, ("rank", ("b", "c"), 1))))
        both = 0
        for house, asks in ((CELLS, longer), (CELLS, longer[2:]), (ALL_OPEN, (A, BEST, WORST, THREE)),
                            (LOOSE, (BEST, WORST, B, A))):
            for secret in (A, B, ("rank", ("a", "b"), 2), NEVER):
                # Without asks a secret is told if it is nothing in all tables.
                loud_alone = secret == NEVER and house != ALL_OPEN
                silent, loud = plain_lots(len(asks), lambda lot: loud_alone if lot == () else tells_sometimes(
                    house, tuple(asks[k] for k in lot), secret) is not None)
                self.assertEqual([silent_lots(house, asks, secret), loud_lots(house, asks, secret)], [silent, loud])
                both += silent != [] and loud != []
        self.assertGreater(both, 6)

    def test_the_empty_lot(self):
        self.assertEqual([silent_lots(PAIR, (A, B), NEVER), loud_lots(PAIR, (A, B), NEVER)], [[], [()]])
        self.assertEqual([silent_lots(EMPTY, (A,), A), loud_lots(EMPTY, (A,), A)], [[], [()]])
        self.assertEqual([silent_lots(PAIR, (A,), A), loud_lots(PAIR, (A,), A)], [[()], [(0,)]])
        self.assertEqual([silent_lots(PAIR, (A, A), B), loud_lots(PAIR, (A, A), B)], [[(0, 1)], []])

    def test_equal_asks(self):
        self.assertEqual(silent_lots(PAIR, (BEST, B, BEST), A), [(0, 2), (1,)])
        self.assertEqual(loud_lots(PAIR, (BEST, B, BEST), A), [(0, 1), (1, 2)])
        self.assertEqual([silent_lots(PAIR, (A, B, A), A), loud_lots(PAIR, (A, B, A), A)], [[(1,)], [(0,), (2,)]])

    def test_lists_are_new(self):
        for call in (silent_lots, loud_lots):
            found = call(PAIR, (A, B), A)
            expected = list(found)
            found.clear()
            self.assertEqual(call(PAIR, (A, B), A), expected)


class TooManyTest(unittest.TestCase):

    def check(self, most, *arguments):
        for call in (silent_lots, loud_lots):
            with self.assertRaises(TooMany) as caught:
                call(*arguments)
            self.assertEqual(caught.exception.most, most)

    def test_seven_asks_ahead_of_all_else(self):
        three, deep = (("a", 0, None), ("b", 0, None), ("c", 0, None)), ("rank", ("c",), 5)
        self.check(6, three, (A,) * 7, deep)
        self.check(6, three, (deep,) * 7, A)
        self.check(6, WIDE, BEYOND, A)
        self.check(200, three, (A,) * 6, deep)
        self.check(200, three, (A, deep), B)
        self.assertEqual(loud_lots(PAIR, (A,) * 6, A), [(k,) for k in range(6)])
        self.assertEqual(silent_lots(PAIR, (A,) * 6, B), [(0, 1, 2, 3, 4, 5)])

    def test_more_than_500_rows(self):
        five, cells = tuple((name, 1, 1) for name in "abcde"), tuple(("rank", (name,), 1) for name in "abcde")
        self.check(500, five, cells, NEVER)
        self.check(500, five, cells, A)
        self.assertEqual(silent_lots(five, cells[:4], cells[4]), [(0, 1, 2, 3)])
        self.check(200, (("a", 0, None),) + five[1:], cells, ("rank", ("a",), 20))

    def test_just_500_rows_and_502(self):
        loose, full = tuple((name, 0, 1) for name in "abcde"), ("a", "b", "c", "d", "e")
        c, d, e = [("rank", (name,), 1) for name in "cde"]
        just = (("kth", 2, (d, ("rank", ("a", "d"), 1))), ("kth", 2, (("rank", full, 3), ("rank", full[1:], 1), c)), e,
                ("rank", full, 1), WORST, A)
        self.assertEqual(len(rows_of(loose, just)), 500)
        never = ("rank", ("e",), 2)
        self.assertEqual([silent_lots(loose, just, never), loud_lots(loose, just, never)], [[], [()]])
        self.assertIn((5,), loud_lots(loose, just, A))
        self.check(500, loose, (c, A, e, ("rank", ("c", "d", "e"), 2), B), A)

    def test_many_rows(self):
        asks = JUST[:6]
        self.assertGreater(len(rows_of(WIDE, asks)), 60)
        self.assertEqual(loud_lots(WIDE, asks, asks[3])[-1], (3,))


if __name__ == "__main__":
    unittest.main()
