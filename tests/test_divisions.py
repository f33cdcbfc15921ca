"""Tests of [33] and of [8]: divisions."""

import copy
import itertools
import unittest

from countsfall.divisions import asks_of, division_of, is_division, is_ring, joined_up, refined, ring_of
from countsfall.errors import CountError, HasRing, NotFirm, TooMany
from countsfall.forms import is_formula
from countsfall.ways import holds, ways_formula, ways_of
from tests.samples import (
    A, B, BEST, EMPTY, FIRM, HELD, LOOSE, MIXED, ODD_VALUES, OPEN, PAIR, WORST, broken, counts_within, is_within)
from tests.test_closed import CELLS, HOUSES, NEVER, ROW, asks_of_house

ZERO, RIGHT, LEFT, BOTH = (0, 0), (0, 1), (1, 0), (1, 1)


def counts_of(house):
    """Return the ascending list of all counts of a firm house."""
    return counts_within(tuple(sort[2] for sort in house))


def divisions_of(things):
    """Return all divisions of a list of counts, their classes and counts ascending."""
    found = [[]]
    for thing in things:
        found = [parts[:k] + [part + (thing,)] + parts[k + 1:] for parts in found for k, part in enumerate(parts)] + [
            parts + [(thing,)] for parts in found]
    return [tuple(sorted(parts)) for parts in found]


def leads(one, other):
    """Return whether one class has counts that are within some of the other one."""
    return any(is_within(low, high) for low in one for high in other)


def plain_is_ring(division, ring):
    """Return whether classes are a ring by the words of the document."""
    good = len(ring) >= 2 and len(set(ring)) == len(ring) and all(part in division for part in ring)
    return good and all(leads(one, other) for one, other in zip(ring, ring[1:] + ring[:1]))


def has_ring(division):
    """Return whether a small division has a ring, gone through one by one."""
    return any(plain_is_ring(division, ring) for many in range(2, len(division) + 1)
               for ring in itertools.permutations(division, many))


def is_finer(one, other):
    """Return whether each class of one lies in a class of other."""
    return all(any(set(part) <= set(whole) for whole in other) for part in one)


SMALL = (PAIR, ROW, EMPTY, FIRM, (("a", 0, 0), ("b", 2, 2)), (("a", 4, 4),))


class DivisionOfTest(unittest.TestCase):

    def test_the_examples(self):
        self.assertEqual(division_of(PAIR, (BEST, WORST)), ((ZERO,), (RIGHT, LEFT), (BOTH,)))
        self.assertEqual(joined_up(PAIR, division_of(PAIR, (A, B)), [(ZERO, BOTH)]), ((ZERO, RIGHT, LEFT, BOTH),))

    def test_against_the_words(self):
        for house in HOUSES:
            for asks in asks_of_house(house):
                classes = {}
                for counts in counts_of(house):
                    classes.setdefault(tuple(holds(house, ask, counts) for ask in asks), []).append(counts)
                found = division_of(house, asks)
                self.assertEqual(found, tuple(sorted(tuple(part) for part in classes.values())))
                self.assertIs(is_division(house, found), True)
                self.assertIsNone(ring_of(house, found))

    def test_no_asks(self):
        self.assertEqual(division_of(PAIR, ()), ((ZERO, RIGHT, LEFT, BOTH),))
        self.assertEqual([division_of(EMPTY, ()), division_of(EMPTY, (A,))], [(((0,),),)] * 2)
        self.assertEqual(division_of(PAIR, (NEVER,)), division_of(PAIR, ()))


class IsDivisionTest(unittest.TestCase):

    def test_all_divisions(self):
        for house in SMALL:
            for division in divisions_of(counts_of(house)):
                self.assertIs(is_division(house, division), True)
                self.assertIs(is_division(house, list(division)), False)
                for at, part in enumerate(division):
                    self.check_wrong(house, division, at, part)

    def check_wrong(self, house, division, at, part):
        others = [(), list(part), part + part[-1:], None]
        others += [part[:k] + part[k + 1:] for k in range(len(part))] + ([part[::-1]] if len(part) > 1 else [])
        for other in others:
            self.assertIs(is_division(house, division[:at] + (other,) + division[at + 1:]), False)
        self.assertIs(is_division(house, division[:at] + division[at + 1:]), False)
        self.assertIs(is_division(house, division + (part,)), False)
        if len(division) > 1:
            self.assertIs(is_division(house, division[1:] + division[:1]), False)

    def test_one_part_otherwise(self):
        for division in (((ZERO,), (RIGHT, LEFT), (BOTH,)), ((ZERO, BOTH), (RIGHT,), (LEFT,))):
            self.assertIs(is_division(PAIR, division), True)
            for thing in broken(division):
                self.assertIs(is_division(PAIR, thing), False, thing)
        for thing in (((ZERO, RIGHT, LEFT, (1, 2)),), ((ZERO, RIGHT, LEFT, BOTH, (2, 0)),), ((ZERO, RIGHT, LEFT),),
                      ((ZERO, RIGHT, LEFT, (True, True)),), ((ZERO, RIGHT), (LEFT,), (LEFT, BOTH)), ((ZERO, LEFT, RIGHT, BOTH),),
                      ((RIGHT, LEFT), (ZERO,), (BOTH,)), (), ((),), (ZERO, RIGHT, LEFT, BOTH)):
            self.assertIs(is_division(PAIR, thing), False, thing)

    def test_any_value(self):
        for thing in ODD_VALUES:
            before = thing if isinstance(thing, CountError) else copy.deepcopy(thing)
            self.assertIs(is_division(PAIR, thing), False)
            self.assertEqual(is_division((("a", 0, 0),), thing), thing == (((0,),),))
            self.assertEqual(thing, before)


class RingTest(unittest.TestCase):

    def test_against_all_divisions(self):
        with_ring = 0
        for house in SMALL:
            for division in divisions_of(counts_of(house)):
                ring = ring_of(house, division)
                if len(division) < 6:
                    self.assertIs(ring is not None, has_ring(division))
                if ring is not None:
                    with_ring += 1
                    self.assertIsInstance(ring, tuple)
                    self.assertIs(plain_is_ring(division, ring), True)
                    self.assertIs(is_ring(house, division, ring), True)
        self.assertGreater(with_ring, 50)

    def test_is_ring_against_the_words(self):
        for house in (PAIR, ROW, FIRM):
            divisions = divisions_of(counts_of(house))
            for division in divisions[::1 if len(divisions) < 20 else 9]:
                for many in range(0, min(len(division), 4) + 1):
                    for thing in itertools.permutations(division, many):
                        self.assertIs(is_ring(house, division, thing), plain_is_ring(division, thing))

    def test_rings_of_two(self):
        division = ((ZERO, BOTH), (RIGHT,), (LEFT,))
        self.assertEqual(len(ring_of(PAIR, division)), 2)
        for thing in (((ZERO, BOTH), (RIGHT,)), ((RIGHT,), (ZERO, BOTH)), ((LEFT,), (ZERO, BOTH))):
            self.assertIs(is_ring(PAIR, division, thing), True)
        for thing in (((LEFT,), (RIGHT,)), ((ZERO, BOTH),), ((ZERO, BOTH), (ZERO, BOTH)), ((ZERO, BOTH), (RIGHT,), (LEFT,)), ()):
            self.assertIs(is_ring(PAIR, division, thing), False)

    def test_a_ring_that_needs_three_classes(self):
        one, two, last = ((0, 0, 1), (0, 1, 1)), ((0, 1, 0), (1, 1, 0)), ((1, 0, 0), (1, 0, 1))
        division = (((0, 0, 0),), one, two, last, ((1, 1, 1),))
        for thing in itertools.permutations(division, 2):
            self.assertIs(is_ring(CELLS, division, thing), False)
        for thing in itertools.permutations(division, 3):
            self.assertIs(is_ring(CELLS, division, thing), thing in ((one, last, two), (last, two, one), (two, one, last)))
        self.assertIn(ring_of(CELLS, division), ((one, last, two), (last, two, one), (two, one, last)))
        self.assertEqual(joined_up(CELLS, division, []), (division[0], tuple(sorted(one + two + last)), division[4]))

    def test_no_ring_and_other_divisions(self):
        division = division_of(PAIR, (BEST, WORST))
        for thing in ((division[0], division[1]), division, division[::-1]):
            self.assertIs(is_ring(PAIR, division, thing), False)
        # Classes of another division are none of this one.
        self.assertIs(is_ring(PAIR, division, ((ZERO, BOTH), (RIGHT,))), False)

    def test_any_value(self):
        division = ((ZERO, BOTH), (RIGHT,), (LEFT,))
        ring = ring_of(PAIR, division)
        for thing in list(ODD_VALUES) + broken(ring):
            before = copy.deepcopy(thing) if not isinstance(thing, CountError) else thing
            self.assertIs(is_ring(PAIR, division, thing), False, thing)
            if thing in ODD_VALUES:
                self.assertEqual(thing, before)


class AsksTest(unittest.TestCase):

    def test_the_division_comes_about(self):
        some = 0
        for house in SMALL:
            for division in divisions_of(counts_of(house)):
                ring = ring_of(house, division)
                if ring is not None:
                    with self.assertRaises(HasRing) as caught:
                        asks_of(house, division)
                    self.assertEqual(caught.exception.ring, ring)
                    continue
                asks = asks_of(house, division)
                some += 1
                self.assertEqual([type(asks), len(asks)], [tuple, len(division) - 1])
                self.assertEqual(division_of(house, asks), division)
                for ask in asks:
                    self.assertIs(is_formula(house, ask), True)
                    self.assertEqual(ask, ways_formula(house, tuple(ways_of(house, ask))))
        self.assertGreater(some, 50)

    def test_by_other_asks(self):
        for house in HOUSES:
            for asks in asks_of_house(house):
                division = division_of(house, asks)
                self.assertEqual(division_of(house, asks_of(house, division)), division)

    def test_one_class_and_single_counts(self):
        self.assertEqual([asks_of(PAIR, ((ZERO, RIGHT, LEFT, BOTH),)), asks_of(EMPTY, (((0,),),))], [(), ()])
        self.assertEqual(asks_of(ROW, tuple(((many,),) for many in range(4))), tuple(("rank", ("a",), k) for k in (3, 2, 1)))


class RefinedTest(unittest.TestCase):

    def test_against_the_words(self):
        for house in (PAIR, ROW, EMPTY, (("a", 0, 0), ("b", 2, 2))):
            divisions = divisions_of(counts_of(house))
            for one, other in itertools.product(divisions, divisions):
                common = [tuple(sorted(set(part) & set(piece))) for part in one for piece in other]
                self.assertEqual(refined(house, one, other), tuple(sorted(part for part in common if part)))

    def test_of_asks(self):
        for house in HOUSES:
            for one, other in itertools.product(asks_of_house(house)[:9], repeat=2):
                found = refined(house, division_of(house, one), division_of(house, other))
                self.assertEqual(found, division_of(house, one + other))


class JoinedTest(unittest.TestCase):

    def check(self, house, divisions, division, couples):
        found = joined_up(house, division, couples)
        self.assertIs(is_division(house, found), True)
        good = [other for other in divisions if ring_of(house, other) is None and is_finer(division, other) and all(
            any(one in part and two in part for part in other) for one, two in couples)]
        self.assertIn(found, good)
        for other in good:
            self.assertIs(is_finer(found, other), True)

    def test_the_finest_one_against_all_divisions(self):
        for house in (PAIR, ROW, (("a", 0, 0), ("b", 2, 2))):
            counts = counts_of(house)
            divisions, couples = divisions_of(counts), list(itertools.product(counts, counts))
            for division in divisions:
                for lists in [[]] + [[couple] for couple in couples] + [[couples[2], couple] for couple in couples[::3]]:
                    self.check(house, divisions, division, lists)

    def test_six_counts(self):
        counts = counts_of(FIRM)
        divisions = divisions_of(counts)
        for division in divisions[::7]:
            for couples in ([], [(counts[1], counts[3])], [(counts[0], counts[0]), (counts[4], counts[2])]):
                self.check(FIRM, divisions, division, couples)

    def test_couples_of_the_same_counts_and_none(self):
        for asks in asks_of_house(CELLS):
            division = division_of(CELLS, asks)
            self.assertEqual(joined_up(CELLS, division, []), division)
            self.assertEqual(joined_up(CELLS, division, [(counts, counts) for counts in counts_of(CELLS)]), division)

    def test_rings_make_it_coarser(self):
        self.assertEqual(joined_up(PAIR, ((ZERO, BOTH), (RIGHT,), (LEFT,)), []), ((ZERO, RIGHT, LEFT, BOTH),))
        single = tuple((counts,) for counts in counts_of(ROW))
        self.assertEqual(joined_up(ROW, single, [((1,), (3,))]), (((0,),), ((1,), (2,), (3,))))
        self.assertEqual(joined_up(PAIR, tuple((counts,) for counts in counts_of(PAIR)), [(RIGHT, LEFT)]),
                         ((ZERO,), (RIGHT, LEFT), (BOTH,)))

    def test_couples_stay(self):
        couples = [(ZERO, RIGHT), (LEFT, LEFT)]
        joined_up(PAIR, division_of(PAIR, (A, B)), couples)
        self.assertEqual(couples, [(ZERO, RIGHT), (LEFT, LEFT)])


class ErrorsTest(unittest.TestCase):

    def calls(self, house):
        one = ((tuple(0 for _ in house),),)
        return [
            lambda: division_of(house, ()), lambda: is_division(house, None), lambda: is_division(house, one),
            lambda: ring_of(house, one), lambda: is_ring(house, one, None), lambda: is_ring(house, one, one + one),
            lambda: asks_of(house, one), lambda: refined(house, one, one), lambda: joined_up(house, one, [])]

    def test_not_firm(self):
        huge = (("a", 9, 9), ("b", 9, 9), ("c", 8, 9), ("d", 0, None))
        for house, name in ((MIXED, "b"), (LOOSE, "a"), (HELD, "b"), (OPEN, "a"), (huge, "c")):
            for call in self.calls(house):
                with self.assertRaises(NotFirm) as caught:
                    call()
                self.assertEqual(caught.exception.name, name)

    def test_more_than_200_counts(self):
        for house in ((("a", 6, 6), ("b", 5, 5), ("c", 4, 4)), (("a", 200, 200),), (("a", 9, 9), ("b", 9, 9), ("c", 2, 2))):
            for call in self.calls(house):
                with self.assertRaises(TooMany) as caught:
                    call()
                self.assertEqual(caught.exception.most, 200)

    def test_just_200_counts(self):
        just = (("a", 9, 9), ("b", 9, 9), ("c", 1, 1))
        single = tuple((counts,) for counts in counts_of(just))
        self.assertEqual([is_division(just, single), ring_of(just, single), len(asks_of(just, single))], [True, None, 199])
        self.assertEqual(len(division_of(just, asks_of(just, single))), 200)
        self.assertEqual(joined_up(just, single, [((0, 0, 0), (9, 9, 1))]), (tuple(counts_of(just)),))
        turned = tuple(sorted((counts, tuple(9 * (k < 2) + (k == 2) - many for k, many in enumerate(counts)))
                              for counts in counts_of(just)[:100]))
        self.assertIs(is_ring(just, turned, ring_of(just, turned)), True)
        self.assertEqual(refined(just, turned, single), single)


if __name__ == "__main__":
    unittest.main()
