"""Tests of [38]: stays, and the greatest number of those who are there on a day."""

import itertools
import unittest

from countsfall.best import lot_asks, safe_cells
from countsfall.errors import TooMany
from countsfall.sometimes import tells_sometimes
from countsfall.stays import days_for_all, safe_names, there_on, told_days, twins

STAYS = {"ann": (1, 2), "bob": (2, 3), "cy": (1, 2, 3)}
ALONE = {"a": (1,)}
LONG = {"b": tuple(range(10)), "a": (-5, 0, 4, 9), "abcdef": (3,), "c": (3, 4, 5), "d": (0, 9), "e": (4, 5), "f": (6,), "g": (6, 7)}


def parts_of(days):
    """Return all ascending tuples of some of days."""
    return [part for size in range(len(days) + 1) for part in itertools.combinations(days, size)]


def all_stays(names, days, step=1):
    """Return the dicts from these names to parts of days that are not empty."""
    parts = [part for part in parts_of(days) if part]
    return [dict(zip(names, choice)) for choice in itertools.product(parts, repeat=len(names))][::step]


ALL = all_stays("ab", (1, 2, 3)) + all_stays("cab", (0, 1, 2), 3) + all_stays("badc", (-1, 4, 9), 37)
DAYS = ((), (1,), (1, 2), (0, 1, 2), (1, 2, 3), (-1, 4), (-1, 4, 9), (5, 6))


def lots_on(stays, days):
    """Return the tuple of the lots of those who are there, for each day on which somebody is."""
    lots = [tuple(sorted(name for name in stays if day in stays[name])) for day in days]
    return tuple(lot for lot in lots if lot)


def plain_safe(stays, days):
    """Return those whose number is told in no table by the words of the document."""
    told = {name: [day for day in days if day in stays[name]] for name in stays}
    return tuple(name for name in sorted(stays) if all(any(
        other != name and day in told[other] and set(told[other]) <= set(told[name]) for other in stays) for day in told[name]))


class StaysTest(unittest.TestCase):

    def test_the_example(self):
        self.assertEqual([safe_names(STAYS, (1, 2, 3)), days_for_all(STAYS, (1, 2, 3))], [("cy",), [(1,), (2,), (3,)]])

    def test_who_is_there(self):
        for stays in ALL + [STAYS, LONG]:
            for day in range(-2, 11):
                self.assertEqual(there_on(stays, day), tuple(name for name in sorted(stays) if day in stays[name]))
        self.assertEqual([there_on(STAYS, 2), there_on(STAYS, 3), there_on(STAYS, 4)], [("ann", "bob", "cy"), ("bob", "cy"), ()])

    def test_told_days(self):
        for stays in ALL[::3] + [STAYS, LONG]:
            for days, name in itertools.product(DAYS, stays):
                self.assertEqual(told_days(stays, days, name), tuple(day for day in days if day in stays[name]))
        self.assertEqual([told_days(STAYS, (2, 3, 7), "ann"), told_days(STAYS, (), "ann"), told_days(STAYS, (3,), "ann")],
                         [(2,), (), ()])

    def test_twins(self):
        some = 0
        for stays in ALL + [STAYS, LONG]:
            for days in DAYS:
                told = {name: told_days(stays, days, name) for name in stays}
                expected = sorted((one, other) for one in stays for other in stays
                                  if one < other and told[one] and told[one] == told[other])
                self.assertEqual(twins(stays, days), expected)
                some += len(expected) > 1
        self.assertGreater(some, 50)
        self.assertEqual([twins(STAYS, (1,)), twins(STAYS, (2,))], [[("ann", "cy")], [("ann", "bob"), ("ann", "cy"), ("bob", "cy")]])
        self.assertEqual([twins(STAYS, ()), twins(STAYS, (9,)), twins(ALONE, (1,))], [[], [], []])

    def test_stays_in_any_order(self):
        turned = {name: STAYS[name] for name in reversed(list(STAYS))}
        for days in DAYS:
            for call in (twins, safe_names, days_for_all):
                self.assertEqual(call(turned, days), call(STAYS, days))
        self.assertEqual(there_on(turned, 2), ("ann", "bob", "cy"))
        self.assertEqual(list(turned), ["cy", "bob", "ann"])


class SafeTest(unittest.TestCase):

    def test_against_the_words(self):
        for stays in ALL + [STAYS, LONG, ALONE]:
            for days in DAYS:
                self.assertEqual(safe_names(stays, days), plain_safe(stays, days))
        for days in parts_of(range(10))[::13]:
            self.assertEqual(safe_names(LONG, days), plain_safe(LONG, days))

    def test_against_what_is_told_of_cells(self):
        some = 0
        for stays in ALL:
            house = tuple((name, 1, 1) for name in sorted(stays))
            for days in DAYS[1:]:
                lots = lots_on(stays, days)
                expected = tuple(name for name, _, _ in house
                                 if tells_sometimes(house, lot_asks(lots), ("rank", (name,), 1)) is None) if lots else None
                if lots:
                    self.assertEqual([safe_names(stays, days), safe_cells(house, lots)], [expected, expected])
                    some += 0 < len(expected) < len(house)
        self.assertGreater(some, 100)

    def test_days_on_which_nobody_or_everybody_is_there(self):
        self.assertEqual(safe_names(STAYS, (7, 8)), ("ann", "bob", "cy"))
        self.assertEqual(safe_names(STAYS, ()), ("ann", "bob", "cy"))
        self.assertEqual(safe_names(STAYS, (2,)), ("ann", "bob", "cy"))
        self.assertEqual(safe_names(STAYS, (2, 7)), ("ann", "bob", "cy"))
        self.assertEqual([safe_names(ALONE, (1,)), safe_names(ALONE, (2,))], [(), ("a",)])

    def test_stays_beside_all_days(self):
        stays = {"a": (5, 6), "b": (1,)}
        self.assertEqual([safe_names(stays, (1, 2)), told_days(stays, (1, 2), "a"), days_for_all(stays, (1, 2))],
                         [("a",), (), [(2,)]])

    def test_twins_are_both_safe(self):
        for stays in ALL[::2]:
            for days in DAYS:
                for one, other in twins(stays, days):
                    self.assertLessEqual({one, other}, set(safe_names(stays, days)))


class AllSafeTest(unittest.TestCase):

    def test_against_all_parts(self):
        seen = [0, 0]
        for stays in ALL + [STAYS, LONG, ALONE]:
            for days in DAYS:
                suiting = [part for part in parts_of(days) if len(plain_safe(stays, part)) == len(stays)]
                expected = sorted(part for part in suiting if not any(set(part) < set(other) for other in suiting))
                self.assertEqual(days_for_all(stays, days), expected)
                seen[0] += expected == [()]
                seen[1] += len(expected) > 1
        self.assertGreater(min(seen), 100)

    def test_the_empty_part_alone(self):
        self.assertEqual([days_for_all(ALONE, (1,)), days_for_all(ALONE, (2,)), days_for_all(ALONE, ())], [[()], [(2,)], [()]])
        self.assertEqual(days_for_all({"a": (1, 3), "b": (2, 4)}, (1, 2, 3, 4)), [()])

    def test_ten_days(self):
        days = tuple(range(10))
        suiting = [part for part in parts_of(days) if len(plain_safe(LONG, part)) == len(LONG)]
        self.assertEqual(days_for_all(LONG, days),
                         sorted(part for part in suiting if not any(set(part) < set(other) for other in suiting)))
        eight = {name: days for name in "hgfedcba"}
        self.assertEqual(days_for_all(eight, days), [days])

    def test_eleven_days(self):
        for stays in (STAYS, LONG, ALONE):
            with self.assertRaises(TooMany) as caught:
                days_for_all(stays, tuple(range(11)))
            self.assertEqual(caught.exception.most, 10)
            with self.assertRaises(TooMany):
                days_for_all(stays, tuple(range(-40, -10)))
        self.assertEqual(safe_names(ALONE, tuple(range(11))), ())
        self.assertEqual(twins(STAYS, tuple(range(40))), [])

    def test_lists_are_new(self):
        for call in (twins, days_for_all):
            found = call(STAYS, (2,))
            expected = list(found)
            found.clear()
            self.assertEqual(call(STAYS, (2,)), expected)


if __name__ == "__main__":
    unittest.main()
