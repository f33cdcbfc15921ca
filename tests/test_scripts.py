"""Tests of [46] and of [10]: scripts that make the same of all tables."""

import itertools
import unittest

from countsfall.acts import counts_behind
from countsfall.deeds import done
from countsfall.errors import TooMany
from countsfall.forms import is_table
from countsfall.scripts import parted_table, same_acts
from countsfall.tables import all_numbers
from tests.samples import FIRM, HELD, LOOSE, MIXED, OPEN, PAIR, counts_within, tables_with
from tests.test_acts import some_scripts
from tests.test_deeds import DEEDS

BIG = 10 ** 30
FEW = (("come", "a", 2), ("come", "b", 0), ("go", "a", 1), ("go", "b", 2), ("move", "a", 1, "b"), ("move", "b", 1, "a"),
       ("keep", "a", 1), ("keep", "b", 0), ("merge", "a", "b"), ("merge", "b", "a"))
HELD_AB = (("a", 2, 3), ("b", 0, 1))
HOUSES = (PAIR, MIXED, LOOSE, FIRM, HELD_AB, OPEN)
# Scripts that make the same of all tables.
ALIKE = (
    ((("keep", "a", 1), ("keep", "a", 2)), (("keep", "a", 1),)), ((("merge", "a", "b"), ("keep", "a", 0)), (("merge", "a", "b"),)),
    ((("come", "a", 5), ("come", "b", 5)), (("come", "b", 5), ("come", "a", 5))), ((), ()),
    ((("keep", "a", 0), ("go", "a", 1)), (("keep", "a", 0), ("keep", "a", 3))),
    ((("merge", "a", "b"), ("merge", "b", "a")), (("merge", "b", "a"),)), ((("keep", "a", 0),), (("keep", "a", 0), ("keep", "a", 0))),
    ((("go", "a", 1), ("go", "a", 1)), (("go", "a", 2), ("go", "a", 1))))


def reach_of(one, other):
    """Return the reach of two scripts by the words of the document."""
    return 1 + max(len(one), len(other)) + max([0] + [deed[2] for deed in one + other if deed[0] in ("go", "move", "keep")])


class SameTest(unittest.TestCase):

    def check_parted(self, house, one, other):
        """Return whether scripts are the same, with what is promised of the table if they are not."""
        table = parted_table(house, one, other)
        self.assertIs(same_acts(house, one, other), table is None)
        if table is not None:
            self.assertEqual([is_table(house, table), list(table) == sorted(table)], [True, True])
            numbers = all_numbers(table)
            self.assertTrue(len(numbers) < 2 or numbers == [numbers[0], numbers[0] + 1], table)
            self.assertNotEqual(done(house, table, one), done(house, table, other), (house, one, other, table))
        return table is None

    def test_the_example(self):
        house = (("a", 0, 3), ("b", 0, 3))
        script = (("move", "a", 1, "b"), ("come", "a", 4))
        self.assertEqual([same_acts(house, (("keep", "a", 1), ("keep", "a", 2)), (("keep", "a", 1),)),
                          same_acts(house, script, script[::-1])], [True, False])

    def test_against_all_small_tables(self):
        seen = {True: 0, False: 0}
        for house in HOUSES:
            tables = tables_with(house, (-1, 0, 1, 2, 3), 2 if house != OPEN else 1)
            scripts = some_scripts(17, 22, 3, FEW) + [(), FEW[:1], FEW[6:7], FEW[8:9]]
            for one, other in itertools.combinations(scripts, 2):
                if self.check_parted(house, one, other):
                    seen[True] += 1
                    for table in tables[::3]:
                        self.assertEqual(done(house, table, one), done(house, table, other), (house, one, other, table))
                else:
                    seen[False] += 1
        self.assertGreater(min(seen.values()), 60)

    def test_all_couples_of_deeds(self):
        for house in (LOOSE, PAIR, HELD_AB):
            tables = tables_with(house, (-2, -1, 0, 1, 2, 3))
            # Numbers that are told stand at both ends of stretches.
            for one, other in itertools.combinations([script for size in (0, 1, 2) for script in itertools.product(
                    FEW[::2] if house != LOOSE else FEW[1::2], repeat=size)], 2):
                same = all(done(house, table, one) == done(house, table, other) for table in tables[::2])
                if not same or self.check_parted(house, one, other):
                    self.assertIs(same_acts(house, one, other), same, (house, one, other))

    def test_scripts_alike(self):
        for house in HOUSES:
            for one, other in ALIKE:
                self.assertEqual([self.check_parted(house, one, other), self.check_parted(house, other, one)], [True, True],
                                 (house, one, other))

    def test_with_itself_and_both_ways_about(self):
        scripts = some_scripts(19, 30, 6)
        for house in (LOOSE, MIXED):
            for one, other in zip(scripts, scripts[1:]):
                self.assertEqual([same_acts(house, one, one), parted_table(house, one, one)], [True, None])
                self.assertIs(same_acts(house, one, other), same_acts(house, other, one))
                self.check_parted(house, other, one)

    def test_by_the_house(self):
        # Of a house with few rows more scripts make the same.
        one, other = (("go", "a", 2),), ()
        self.assertEqual([same_acts(house, one, other) for house in (PAIR, LOOSE, OPEN, HELD_AB)], [True, False, False, False])
        one, other = (("keep", "a", 3),), (("keep", "a", 9),)
        self.assertEqual([same_acts(house, one, other) for house in (PAIR, LOOSE, OPEN, HELD_AB)], [True, True, False, True])
        one, other = (("merge", "a", "b"), ("keep", "b", 2)), (("merge", "a", "b"), ("keep", "b", 3))
        self.assertEqual([same_acts(house, one, other) for house in (PAIR, LOOSE, MIXED)], [True, False, False])

    def test_least_rows_beyond_the_reach(self):
        house = (("a", 6, None), ("b", 6, 6))
        for one, other in (((), (("go", "a", 1),)), ((("keep", "a", 1),), (("keep", "a", 0),)), (((), (("move", "b", 2, "a"),)))):
            self.assertIs(self.check_parted(house, one, other), False)

    def test_above_all_numbers_between_two_and_at_one_alone(self):
        keep = (("keep", "a", 1),)
        above = (("come", "a", 4), ("keep", "a", 1), ("come", "a", 4)), (("come", "a", 4), ("come", "a", 4))
        # Up to 4 a row has come to a anyway, and just one stays.
        self.assertIs(self.check_parted((("a", 0, 0), ("b", 1, 1)), (("come", "a", 4),) + keep, (("come", "a", 4),)), True)
        self.assertIs(self.check_parted(PAIR, *above), False)
        for low, high in ((2, 3), (2, 9), (-BIG, BIG)):
            # At low and below both rows come, above high none does.
            one = (("come", "a", low), ("come", "b", high))
            other = (("come", "b", low), ("come", "a", high))
            self.assertIs(self.check_parted(PAIR, one, other), False)
            table = parted_table(PAIR, one, other)
            behind = [done(PAIR, table, script) for script in (one, other)]
            self.assertNotEqual(*behind)
            self.assertEqual([same_acts(PAIR, one, one[::-1]), same_acts(PAIR, other, other[::-1])], [True, True])
        self.assertIs(self.check_parted(PAIR, (("come", "a", 2),), (("come", "a", 3),)), False)
        self.assertIs(self.check_parted(PAIR, (("come", "a", BIG),), (("come", "a", BIG - 1),)), False)
        # Only above the mark there is a number beyond which the best row of a is one of the table.
        first, last = (("keep", "a", 1), ("come", "a", 5)), (("come", "a", 5), ("keep", "a", 1))
        house = (("a", 1, 1),)
        self.assertIs(self.check_parted(house, first, last), False)

    def test_numbers_of_the_table(self):
        for low, high in ((0, 1), (0, 2), (-BIG, BIG)):
            one = (("come", "a", low), ("come", "a", high), ("keep", "a", 2), ("keep", "a", 9))
            other = (("come", "a", high), ("keep", "a", 1), ("come", "a", low))
            for house in HOUSES:
                self.check_parted(house, one, other)

    def test_counts_up_to_the_reach_are_enough(self):
        for house in ((("a", 0, 9), ("b", 0, 9)), (("a", 0, None), ("b", 0, None))):
            for one, other in itertools.combinations(some_scripts(23, 14, 3, FEW), 2):
                same = all(counts_behind(house, one, number, counts) == counts_behind(house, other, number, counts)
                           for counts in counts_within((9, 9)) for number in (-1, 0, 1, 2, 3))
                self.assertIs(same_acts(house, one, other), same, (one, other))

    def test_results_are_new(self):
        found = parted_table(LOOSE, (), FEW[:1])
        found.clear()
        self.assertEqual(list(parted_table(LOOSE, (), FEW[:1])), ["a", "b"])


class TooManyTest(unittest.TestCase):

    def check(self, is_beyond, house, one, other):
        for call in (same_acts, parted_table):
            if is_beyond:
                with self.assertRaises(TooMany) as caught:
                    call(house, one, other)
                self.assertEqual(caught.exception.most, 20000)
            else:
                call(house, one, other)

    def test_just_20000_and_more(self):
        many = (("come", "a", 1),) * 9
        ranked = many + (("keep", "a", 9),)
        # The reach is 20 here, and it is 19 with one deed fewer.
        self.assertEqual([reach_of(ranked, ()), reach_of(ranked[1:], ())], [20, 19])
        just = (("a", 0, 9), ("b", 0, 9), ("c", 0, 9), ("d", 0, 19))
        self.check(False, just, ranked, ())
        self.check(False, just, ranked, many)
        self.check(True, just[:3] + (("d", 0, 20),), ranked, ())
        self.check(True, just[:3] + (("d", 0, None),), (), ranked)
        self.check(False, just[:3] + (("d", 0, None),), (), ranked[1:])
        self.check(False, just[:3] + (("d", 0, 40),), ranked[1:], ranked[2:])

    def test_the_reach_by_the_longer_script_and_the_greatest_rank(self):
        for one, other in ((("come", "a", 0),) * 8, (("keep", "a", 9),)), ((("go", "a", 3),) * 12, ()), ((), (("keep", "a", 0),)):
            reach = reach_of(one, other)
            for many in range(1, 6):
                house = tuple((name, 0, None) for name in "abcde"[:many])
                self.check((reach + 1) ** many > 20000, house, one, other)
                self.check((reach + 1) ** many > 20000, house, other, one)
                firm = tuple((name, reach, reach) for name in "abcde"[:many])
                self.check((reach + 1) ** many > 20000, firm, other, one)

    def test_the_reach_without_any_rank(self):
        wide = tuple((name, 0, None) for name in "abcde")
        # The reach is 6 or 7 here, with 7 ** 5 or 8 ** 5 counts.
        for deed in (("merge", "a", "b"), ("come", "c", -BIG)):
            self.check(False, wide, (deed,) * 5, ())
            self.check(True, wide, (), (deed,) * 6)

    def test_it_comes_first(self):
        wide = tuple((name, 0, None) for name in "abcde")
        same = (("keep", "a", 9),)
        self.check(True, wide, same, same)
        self.check(False, wide, (), ())
        self.check(False, wide[:3], same, same)

    def test_long_scripts_of_wide_houses(self):
        house = (("a", 0, 9), ("b", 0, 9), ("c", 0, 9), ("d", 0, 9))
        script = tuple(("come", name, number) for number in range(3) for name in "abcd")
        self.assertIs(same_acts(house, script, script[::-1]), True)
        self.assertIs(same_acts(house, script, script[:-1] + (("come", "d", 3),)), False)


if __name__ == "__main__":
    unittest.main()
