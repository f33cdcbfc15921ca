"""Tests of [37], and of what [9] says of houses of cells: the greatest numbers of lots."""

import itertools
import unittest

from countsfall.always import tells_always
from countsfall.best import best_sometimes, is_union, lot_asks, safe_cells, shadows_of
from countsfall.sometimes import tells_sometimes
from countsfall.tables import value_of
from tests.samples import tables_with

TWO = (("a", 1, 1), ("b", 1, 1))
THREE = TWO + (("c", 1, 1),)
FOUR = THREE + (("d", 1, 1),)
FIVE = FOUR + (("e", 1, 1),)


def lots_of(house):
    """Return all lots of a house."""
    names = [sort[0] for sort in house]
    return [lot for size in range(1, len(names) + 1) for lot in itertools.combinations(names, size)]


def some_lots(house, most, step=1):
    """Return tuples of up to so many lots of a house, each of these once, and such with a lot that stands twice."""
    found = [lots for size in range(most + 1) for lots in itertools.combinations(lots_of(house), size)][::step]
    return found + [lots + lots[:1] for lots in found[1::5]] + [lots[::-1] for lots in found[::7]]


ALL = [(house, lots) for house, most, step in ((TWO, 3, 1), (THREE, 3, 1), (FOUR, 4, 11), (FIVE, 3, 97))
       for lots in some_lots(house, most, step)]


def plain_shadows(lots, name):
    """Return the shadows of a cell by the words of the document."""
    all_names = sorted({other for lot in lots for other in lot})
    return tuple(other for other in all_names if other != name and not any(other in lot and name not in lot for lot in lots))


class LotsTest(unittest.TestCase):

    def test_asks_of_lots(self):
        self.assertEqual(lot_asks(()), ())
        self.assertEqual(lot_asks((("a", "b"), ("a",), ("a", "b"))), (
            ("rank", ("a", "b"), 1), ("rank", ("a",), 1), ("rank", ("a", "b"), 1)))

    def test_the_example(self):
        lots = (("a", "b"), ("a", "c"))
        self.assertEqual([shadows_of(lots, "a"), shadows_of(lots, "b"), safe_cells(THREE, lots)], [("b", "c"), (), ("a",)])

    def test_shadows(self):
        for house, lots in ALL:
            for name, _, _ in house:
                self.assertEqual(shadows_of(lots, name), plain_shadows(lots, name), (lots, name))
        self.assertEqual([shadows_of((), "a"), shadows_of((("b",),), "a"), shadows_of((("a",),), "a")], [(), (), ()])
        self.assertEqual(shadows_of((("a", "b"), ("a", "b")), "b"), ("a",))

    def test_unions_against_what_is_told_always(self):
        seen = {True: 0, False: 0}
        for house, lots in ALL:
            for lot in lots_of(house):
                expected = tells_always(house, lot_asks(lots), ("rank", lot, 1))
                self.assertIs(is_union(lots, lot), expected, (lots, lot))
                seen[expected] += 1
        self.assertGreater(min(seen.values()), 200)

    def test_a_union_has_each_cell_of_a_lot_in_lots_within_it(self):
        self.assertIs(is_union((("a", "b"), ("b", "c")), ("a", "b", "c")), True)
        self.assertIs(is_union((("a", "b"), ("b", "c")), ("a", "c")), False)
        self.assertIs(is_union((), ("a",)), False)
        self.assertIs(is_union((("a",),), ("a",)), True)
        self.assertIs(is_union((("a", "b"), ("c",)), ("b", "c")), False)

    def test_best_sometimes_against_what_is_told(self):
        seen = {True: 0, False: 0}
        for house, lots in ALL:
            for lot in lots_of(house):
                expected = tells_sometimes(house, lot_asks(lots), ("rank", lot, 1)) is not None
                self.assertIs(best_sometimes(lots, lot), expected, (lots, lot))
                seen[expected] += 1
        self.assertGreater(min(seen.values()), 200)

    def test_safe_cells_against_what_is_told(self):
        some = 0
        for house, lots in ALL:
            asks = lot_asks(lots)
            safe = tuple(name for name, _, _ in house if tells_sometimes(house, asks, ("rank", (name,), 1)) is None)
            self.assertEqual(safe_cells(house, lots), safe, lots)
            some += 0 < len(safe) < len(house)
        self.assertGreater(some, 100)

    def test_against_all_tables(self):
        for house in (TWO, THREE):
            tables = tables_with(house, range(1, 8))
            told = [table for table in tables if all(table[name][0] in (2, 4, 6) for name in table)]
            for lots in some_lots(house, 2):
                asks = lot_asks(lots)
                sure = self.sure_lots(house, tables, told, asks)
                names = tuple(name for name, _, _ in house)
                self.assertEqual(safe_cells(house, lots), tuple(name for name in names if (name,) not in sure))
                self.assertEqual([lot for lot in lots_of(house) if best_sometimes(lots, lot)], sure)

    def sure_lots(self, house, tables, told, asks):
        found = {}
        for lot in lots_of(house):
            known = {}
            for table in tables:
                values = tuple(value_of(house, table, ask) for ask in asks)
                known.setdefault(values, set()).add(value_of(house, table, ("rank", lot, 1)))
            values = [tuple(value_of(house, table, ask) for ask in asks) for table in told]
            found[lot] = any(len(known[told_values]) == 1 for told_values in values)
        return [lot for lot in found if found[lot]]

    def test_cells_in_no_lot(self):
        lots = (("b", "c"),)
        self.assertEqual(safe_cells(FOUR, lots), ("a", "b", "c", "d"))
        self.assertEqual(safe_cells(FOUR, (("b",), ("b", "c"))), ("a", "d"))
        self.assertEqual([best_sometimes(lots, lot) for lot in (("a",), ("a", "b"), ("a", "b", "c"), ("b", "c"))],
                         [False, False, False, True])

    def test_no_lots_and_lots_that_stand_twice(self):
        self.assertEqual([safe_cells(TWO, ()), best_sometimes((), ("a",)), is_union((), ("a", "b"))], [("a", "b"), False, False])
        for lots in some_lots(THREE, 2):
            twice = lots + lots
            self.assertEqual(safe_cells(THREE, twice), safe_cells(THREE, lots))
            for lot in lots_of(THREE):
                self.assertEqual([is_union(twice, lot), best_sometimes(twice, lot)],
                                 [is_union(lots, lot), best_sometimes(lots, lot)])


if __name__ == "__main__":
    unittest.main()
