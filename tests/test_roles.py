"""Tests of [43] and of [8]: roles, and rights to ask."""

import itertools
import unittest

from countsfall.always import tells_always
from countsfall.errors import TooMany
from countsfall.roles import breaches, greatest_rights, is_right, least_rights, serving
from countsfall.silent import silent_lots
from countsfall.sometimes import tells_sometimes
from tests.samples import A, ALL_OPEN, B, BEST, EMPTY, LOOSE, MIXED, ODD_VALUES, OPEN, PAIR, TOP, WORST
from tests.test_patterns import BEYOND, CELLS, JUST, WIDE
from tests.test_silent import all_lots

NEVER = ("rank", ("b",), 4)
TWO_B = ("rank", ("b",), 2)
AB, AC, BC = [("rank", lot, 1) for lot in (("a", "b"), ("a", "c"), ("b", "c"))]
THREE = (("a", 0, None), ("b", 0, None), ("c", 0, None))
DEEP = ("rank", ("c",), 5)
FIVE, SINGLES = tuple((name, 1, 1) for name in "abcde"), tuple(("rank", (name,), 1) for name in "abcde")
SAMPLES = ((PAIR, (BEST, WORST, B)), (PAIR, (A, B, A, BEST)), (MIXED, (BEST, WORST, TWO_B, A)), (LOOSE, (BEST, B, WORST, TOP)),
           (CELLS, (AB, AC, BC, ("rank", ("a", "b", "c"), 3))), (OPEN, (A, BEST, TWO_B)), (ALL_OPEN, (WORST, A, B)))
FORMULAS = (A, B, WORST, ("kth", 2, (A, B, BEST)), NEVER)
ROLES = ({"x": (0,), "y": (1,), "z": (0, 1)}, {"b": (), "a": (2,), "abcdef": (0, 1, 2), "c": (1, 2)}, {"q": ()},
         {"e": (0,), "d": (0,), "c": (1,), "b": (2,), "a": ()}, {"i": (0, 2), "is": (0, 2), "at": (1,)})


class Plain:
    """What lots of asks tell, by what [29] and [35] say of them."""

    def __init__(self, house, asks):
        self.house, self.asks = house, asks
        self.known = {}

    def tells(self, lot, formula):
        return tells_always(self.house, self.part(lot), formula)

    def is_loud(self, lot, secret):
        key = (tuple(sorted(set(lot))), secret)
        if key not in self.known:
            self.known[key] = tells_sometimes(self.house, self.part(key[0]), secret) is not None
        return self.known[key]

    def part(self, lot):
        return tuple(self.asks[k] for k in sorted(set(lot)))

    def least_names(self, roles, is_good):
        """Return the least tuples of names of roles that are good, among all of them."""
        names = sorted(roles)
        lots = [tuple(names[k] for k in lot) for lot in all_lots(len(names))]
        good = [lot for lot in lots if is_good([k for name in lot for k in roles[name]])]
        return sorted(lot for lot in good if not any(set(other) < set(lot) for other in good))


class RolesTest(unittest.TestCase):

    def test_the_examples(self):
        self.assertEqual(breaches(PAIR, (BEST, WORST), {"x": (0,), "y": (1,), "z": (0, 1)}, A), [("x", "y"), ("z",)])
        self.assertEqual(least_rights(PAIR, (BEST, WORST), (BEST,), (A,)), [(0,)])

    def test_against_all_tuples_of_roles(self):
        several = served = 0
        for (house, asks), roles, formula in itertools.product(SAMPLES, ROLES, FORMULAS):
            plain = Plain(house, asks)
            loud = plain.least_names(roles, lambda lot: plain.is_loud(lot, formula))
            told = plain.least_names(roles, lambda lot: plain.tells(lot, formula))
            self.assertEqual(breaches(house, asks, roles, formula), loud, (house, asks, roles, formula))
            self.assertEqual(serving(house, asks, roles, formula), told, (house, asks, roles, formula))
            several += len(loud) > 1 and loud[0] != told
            served += told not in ([], [()])
        self.assertGreater(min(several, served), 20)

    def test_roles_that_may_ask_nothing_or_the_same(self):
        self.assertEqual([breaches(PAIR, (A, B), {"q": ()}, A), serving(PAIR, (A, B), {"q": ()}, A)], [[], []])
        same = {"z": (0,), "a": (0,), "m": ()}
        self.assertEqual([breaches(PAIR, (A, B), same, A), serving(PAIR, (A, B), same, A)], [[("a",), ("z",)]] * 2)
        both = {"p": (0, 1), "q": (0, 1), "r": (1,)}
        self.assertEqual(serving(PAIR, (A, B), both, BEST), [("p",), ("q",)])
        self.assertEqual(breaches(PAIR, (A, B), both, B), [("p",), ("q",), ("r",)])

    def test_the_empty_tuple(self):
        for roles in ROLES:
            self.assertEqual([breaches(PAIR, (A, B, A), roles, NEVER), serving(PAIR, (A, B, A), roles, NEVER)], [[()], [()]])
        self.assertEqual([breaches(EMPTY, (), {"a": ()}, A), serving(EMPTY, (), {"a": ()}, A)], [[()], [()]])
        self.assertEqual([breaches(PAIR, (), {"a": ()}, A), serving(PAIR, (), {"a": ()}, A)], [[], []])

    def test_names_in_any_order(self):
        roles = {"z": (0,), "b": (1,), "m": (0, 1)}
        turned = {"m": (0, 1), "z": (0,), "b": (1,)}
        for call in (breaches, serving):
            self.assertEqual(call(PAIR, (A, B), roles, BEST), call(PAIR, (A, B), turned, BEST))
        self.assertEqual(serving(PAIR, (A, B), roles, BEST), [("b", "z"), ("m",)])
        self.assertEqual(list(turned), ["m", "z", "b"])


class RightsTest(unittest.TestCase):

    def check(self, house, asks, needs, secrets):
        plain = Plain(house, asks)
        silent = [lot for lot in all_lots(len(asks)) if not any(plain.is_loud(lot, secret) for secret in secrets)]
        such = [lot for lot in silent if all(plain.tells(lot, formula) for formula in needs)]
        least = sorted(lot for lot in such if not any(set(other) < set(lot) for other in such))
        greatest = sorted(lot for lot in silent if not any(set(other) > set(lot) for other in silent))
        self.assertEqual(least_rights(house, asks, needs, secrets), least, (house, asks, needs, secrets))
        self.assertEqual(greatest_rights(house, asks, secrets), greatest, (house, asks, secrets))
        for lot in all_lots(len(asks)):
            self.assertIs(is_right(house, asks, needs, secrets, lot), lot in such)
        return least, greatest

    def test_against_all_tuples_of_indexes(self):
        seen = [0, 0, 0]
        needed = ((), (BEST,), (WORST, BEST), (TWO_B,), (A, A), (NEVER,))
        for (house, asks), needs, secrets in itertools.product(SAMPLES, needed, ((), (A,), (A, B), (NEVER,), (WORST, B, WORST))):
            least, greatest = self.check(house, asks, needs, secrets)
            seen[0] += least == []
            seen[1] += least not in ([], [()])
            seen[2] += len(greatest) > 1
        self.assertGreater(min(seen), 15)

    def test_no_needs_and_no_secrets(self):
        for house, asks in SAMPLES:
            every = tuple(range(len(asks)))
            self.assertEqual([least_rights(house, asks, (), ()), greatest_rights(house, asks, ())], [[()], [every]])
            self.assertIs(is_right(house, asks, (), (), every), True)
            self.assertEqual(least_rights(house, asks, (), (A,)), [()])
        for house, asks in SAMPLES[:-1]:
            # What is nothing in all tables is told without asks.
            self.assertEqual([least_rights(house, asks, (), (NEVER,)), greatest_rights(house, asks, (NEVER,))], [[], []])
        self.assertEqual([least_rights(PAIR, (), (), ()), greatest_rights(PAIR, (), ())], [[()], [()]])
        self.assertEqual([least_rights(PAIR, (), (A,), ()), greatest_rights(PAIR, (), (A,))], [[], [()]])
        self.assertEqual(least_rights(EMPTY, (A,), (), (A,)), [])

    def test_against_silent_lots(self):
        for house, asks in SAMPLES:
            for secret in FORMULAS:
                self.assertEqual(greatest_rights(house, asks, (secret,)), silent_lots(house, asks, secret))
                self.assertEqual(greatest_rights(house, asks, (secret, secret)), silent_lots(house, asks, secret))

    def test_six_asks(self):
        asks = (BEST, WORST, B, TWO_B, TOP, A)
        self.check(MIXED, asks, (WORST,), (A,))
        self.check(MIXED, asks, (("rank", ("b",), 1),), (A, TWO_B))

    def test_any_value(self):
        asks = (BEST, WORST, B)
        rights = [lot for lot in all_lots(3) if is_right(PAIR, asks, (BEST,), (A,), lot)]
        self.assertEqual(rights, [(0,)])
        for thing in ODD_VALUES + ((1, 0), (0, 0), (0, 3), (-1, 0), (0, 1, 1), (0, None), (0, "1"), ((0,),), [0], (-1,), (3,)):
            self.assertIs(is_right(PAIR, asks, (BEST,), (A,), thing), repr(thing) == "(0,)", thing)
        for thing in ((False,), (0, True), (False, True), (10 ** 39,), (-1,), (-1, 0), (3,), (0, 3)):
            self.assertIs(is_right(PAIR, asks, (), (), thing), False)
        self.assertEqual([is_right(PAIR, asks, (), (), thing) for thing in ((), (0, 1), (0, 1, 2), (2, 1))],
                         [True, True, True, False])


class TooManyTest(unittest.TestCase):

    def check(self, most, call, *arguments):
        with self.assertRaises(TooMany) as caught:
            call(*arguments)
        self.assertEqual(caught.exception.most, most)

    def calls(self, house, asks, formula):
        roles = {"a": (0,)}
        return ((breaches, house, asks, roles, formula), (serving, house, asks, roles, formula),
                (least_rights, house, asks, (formula,), ()), (least_rights, house, asks, (), (A, formula)),
                (greatest_rights, house, asks, (formula,)), (is_right, house, asks, (B, formula), (), ()),
                (is_right, house, asks, (), (formula,), None))

    def test_seven_asks_ahead_of_all_else(self):
        for call in self.calls(THREE, (A,) * 7, DEEP) + self.calls(THREE, (DEEP,) * 7, A) + self.calls(WIDE, BEYOND, A):
            self.check(6, *call)
        for call in self.calls(PAIR, (A,) * 6, B):
            call[0](*call[1:])

    def test_more_than_200_counts(self):
        for call in self.calls(THREE, (A,) * 6, DEEP) + self.calls(THREE, (A, DEEP), B):
            self.check(200, *call)
        for call in self.calls((("a", 0, None),) + FIVE[1:], SINGLES, ("rank", ("a",), 20)):
            self.check(200, *call)

    def test_more_than_500_rows(self):
        for call in self.calls(FIVE, SINGLES, A) + self.calls(FIVE, SINGLES, NEVER):
            self.check(500, *call)
        self.check(500, greatest_rights, FIVE, SINGLES, ())
        self.check(500, least_rights, FIVE, SINGLES, (), ())
        self.check(500, is_right, FIVE, SINGLES, (), (), "x")
        self.check(500, breaches, FIVE, SINGLES, {"a": ()}, A)
        for call in self.calls(FIVE, SINGLES[:4], SINGLES[4]):
            call[0](*call[1:])
        self.assertEqual(greatest_rights(FIVE, SINGLES[:4], SINGLES[4:]), [(0, 1, 2, 3)])

    def test_many_rows(self):
        asks = JUST[:6]
        self.assertEqual(serving(WIDE, asks, {"a": (0, 1), "b": (3, 4)}, asks[3]), [("b",)])
        self.assertIs(is_right(WIDE, asks, (asks[3],), (), (0, 3)), True)

    def test_lists_are_new(self):
        for call, arguments in ((breaches, (PAIR, (A, B), ROLES[0], A)), (serving, (PAIR, (A, B), ROLES[0], A)),
                                (least_rights, (PAIR, (A, B), (A,), ())), (greatest_rights, (PAIR, (A, B), (A,)))):
            found = call(*arguments)
            expected = list(found)
            found.clear()
            self.assertEqual(call(*arguments), expected)


if __name__ == "__main__":
    unittest.main()
