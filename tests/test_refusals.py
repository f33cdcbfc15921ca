"""Tests of [42]: what a refusal of the clerk who sees the table tells."""

import itertools
import unittest

from countsfall.clerks import seeing_replies
from countsfall.errors import IsSure, NeverRefused, NoTable, TooMany
from countsfall.forms import is_table
from countsfall.further import behind, branches, settling
from countsfall.refusals import is_refused, refusal_tells, refused_at
from countsfall.sure import told
from countsfall.tables import fits, value_of
from countsfall.walks import is_cut
from tests.samples import A, ALL_OPEN, B, BEST, LOOSE, MIXED, OPEN, PAIR, TOP, WORST
from tests.test_clerks import DEEP, SAMPLES, SECRETS, THREE, is_sure_in, sure_values

BIG = 10 ** 30
NEVER = ("rank", ("b",), 4)
TWO_B = ("rank", ("b",), 2)
ASKS = (A, B, BEST, WORST, TOP, TWO_B, ("rank", ("a", "b"), 3), NEVER)
CALLS = (refused_at, refusal_tells)
BAD = (PAIR, (), (("is", BEST, 3), ("is", A, 5)))


def all_samples():
    """Return cases with all tables and some, an ask and a secret that is not sure."""
    found = []
    for (case, tables, known), secret in itertools.product(SAMPLES, SECRETS):
        if not is_sure_in(tables, case[0], secret):
            found.extend((case, tables, known, ask, secret) for ask in ASKS)
    return found


ALL = all_samples()


class RefusedAtTest(unittest.TestCase):

    def test_the_examples(self):
        case = (PAIR, (), (("is", BEST, 5),))
        self.assertEqual([refused_at(case, WORST, A), refusal_tells(case, WORST, A)], [[(("rung", 5), 5, 5)], ("sure", 5)])

    def test_against_what_is_sure_behind(self):
        kinds = set()
        for case, tables, _, ask, secret in ALL:
            found = refused_at(case, ask, secret)
            expected = [(place, value, told(behind(case, ask, value), secret)[1]) for place, value in settling(case, ask, secret)]
            self.assertEqual(found, expected)
            self.assertEqual([(place, value) for place, value, _ in found], [
                (place, value) for place, value in branches(case, ask) if value in sure_values(tables, case[0], ask, secret)])
            kinds |= {(place[0], known == value, known is None) for place, value, known in found}
        self.assertEqual(kinds, {("none", True, True), ("none", False, False), ("rung", True, False), ("rung", False, False),
                                 ("gap", True, False), ("gap", False, False)})

    def test_gaps_with_the_value_of_the_ask_itself(self):
        case = (PAIR, (), (("is", BEST, 5),))
        self.assertEqual(refused_at(case, A, A), [(("gap", None, 5), 4, 4), (("rung", 5), 5, 5)])
        self.assertEqual(refused_at((PAIR, (), ()), A, A), [(("gap", None, None), 0, 0)])
        self.assertEqual(refused_at((LOOSE, (), ()), A, A), [(("none",), None, None), (("gap", None, None), 0, 0)])

    def test_gaps_with_one_value_for_all(self):
        case = (PAIR, (), (("is", BEST, 5),))
        self.assertEqual(refused_at(case, A, B), [(("gap", None, 5), 4, 5)])
        case = (LOOSE, (), (("is", BEST, 5), ("is", ("rank", ("a", "b"), 3), None), ("is", A, 5)))
        # There are two rows, so if both are of a, there is none of b.
        self.assertEqual(refused_at(case, ("rank", ("a",), 2), B), [(("gap", None, 5), 4, None), (("rung", 5), 5, None)])
        case = (LOOSE, (), (("is", ("rank", ("a", "b"), 2), None),))
        self.assertEqual(refused_at(case, A, B), [(("gap", None, None), 0, None)])

    def test_numbers_far_from_one_another(self):
        case = (PAIR, (), (("is", BEST, BIG), ("count", ("a",), -BIG, 1)))
        self.assertEqual(refused_at(case, A, B), [(("rung", -BIG), -BIG, BIG), (("gap", -BIG, BIG), -BIG + 1, BIG)])


    def test_gaps_between_many_rungs(self):
        house = (("a", 1, 1), ("b", 1, 1), ("c", 1, 1))
        case = (house, (), (("is", ("rank", ("b",), 1), 100), ("is", ("rank", ("c",), 1), -7)))
        self.assertEqual(refused_at(case, A, ("rank", ("a", "b", "c"), 2)), [
            (("gap", None, -7), -8, -7), (("rung", -7), -7, -7), (("gap", -7, 100), -6, -6), (("rung", 100), 100, 100),
            (("gap", 100, None), 101, 100)])


class TellsTest(unittest.TestCase):

    def refused_tables(self, case, tables, ask, secret):
        sure = sure_values(tables, case[0], ask, secret)
        return [table for table in tables if value_of(case[0], table, ask) in sure]

    def test_against_all_tables(self):
        seen = {"never": 0, "sure": 0, "open": 0}
        for case, tables, _, ask, secret in ALL:
            refused = self.refused_tables(case, tables, ask, secret)
            values = {value_of(case[0], table, secret) for table in refused}
            if not values:
                with self.assertRaises(NeverRefused):
                    refusal_tells(case, ask, secret)
                seen["never"] += 1
            elif len(values) == 1:
                self.assertEqual(refusal_tells(case, ask, secret), ("sure", list(values)[0]), (case, ask, secret))
                seen["sure"] += 1
            else:
                self.check_open(case, ask, secret, refusal_tells(case, ask, secret))
                seen["open"] += 1
        self.assertGreater(min(seen.values()), 20)

    def check_open(self, case, ask, secret, found):
        kind, (one, other) = found
        self.assertEqual([kind, type(found[1]), len(found)], ["open", tuple, 2])
        for table in (one, other):
            self.assertEqual([is_table(case[0], table), fits(case, table), list(table) == sorted(table)], [True] * 3)
            self.assertIs(is_refused(case, ask, secret, table), True)
            self.assertEqual(told(behind(case, ask, value_of(case[0], table, ask)), secret)[0], "sure")
        self.assertNotEqual(value_of(case[0], one, secret), value_of(case[0], other, secret))

    def test_one_gap_with_the_value_of_the_ask(self):
        for case in ((PAIR, (), ()), (MIXED, (), (("is", A, 4),)), (PAIR, (), (("count", ("a",), 4, 0),))):
            ask = B if case[0] == MIXED else A
            self.check_open(case, ask, ask, refusal_tells(case, ask, ask))

    def test_one_gap_of_no_integer_of_one_and_of_more(self):
        # The ask is that in the middle of three numbers; only between the two known ones it tells the third one.
        for high in (4, 5, 6, 7):
            case = (MIXED, (), (("is", TWO_B, 3), ("is", B, high)))
            if high == 4:
                self.assertEqual(refused_at(case, WORST, A), [])
                with self.assertRaises(NeverRefused):
                    refusal_tells(case, WORST, A)
            else:
                self.assertEqual(refused_at(case, WORST, A), [(("gap", 3, high), 4, 4)])
            if high == 5:
                self.assertEqual(refusal_tells(case, WORST, A), ("sure", 4))
            if high > 5:
                self.check_open(case, WORST, A, refusal_tells(case, WORST, A))

    def test_open_sorts(self):
        for house in (OPEN, ALL_OPEN):
            case = (house, (), (("is", ("rank", ("a", "b"), 2), 4), ("count", ("b",), 6, 0)))
            for ask, secret in itertools.product(ASKS, SECRETS):
                if told(case, secret)[0] == "open" and refused_at(case, ask, secret):
                    found = refusal_tells(case, ask, secret)
                    if found[0] == "open":
                        self.check_open(case, ask, secret, found)


class IsRefusedTest(unittest.TestCase):

    def test_against_refused_at_and_the_clerk(self):
        seen = {True: 0, False: 0}
        for case, tables, known, ask, secret in ALL:
            sure = sure_values(tables, case[0], ask, secret)
            for table in known:
                found = is_refused(case, ask, secret, table)
                self.assertIs(found, value_of(case[0], table, ask) in sure)
                self.assertIs(found, seeing_replies(case, (ask,), secret, table) == (("refused",),))
                seen[found] += 1
        self.assertGreater(min(seen.values()), 100)

    def test_any_integer_of_a_gap(self):
        case = (PAIR, (), (("is", BEST, 5),))
        for number in (4, 3, -BIG):
            self.assertIs(is_refused(case, A, B, {"a": (number,), "b": (5,)}), True)
            self.assertIs(is_refused(case, A, B, {"a": (5,), "b": (number,)}), False)


class ErrorsTest(unittest.TestCase):

    def check(self, error, field, value, call, *arguments):
        with self.assertRaises(error) as caught:
            call(*arguments)
        if field is not None:
            self.assertEqual(getattr(caught.exception, field), value)
        return caught.exception

    def calls(self, case, ask, secret):
        return ((refused_at, case, ask, secret), (refusal_tells, case, ask, secret),
                (is_refused, case, ask, secret, {"a": (5,), "b": (2,), "c": ()}))

    def test_too_many_then_no_table_then_is_sure(self):
        bad = (THREE, (), (("is", A, 5), ("is", A, 4)))
        for ask in (A, DEEP):
            for call in self.calls(bad, ask, DEEP) + self.calls((THREE, (), (("is", DEEP, None),)), ask, B):
                self.check(TooMany, "most", 200, *call)
            for call in self.calls(bad, ask, A):
                self.assertIs(is_cut(bad, self.check(NoTable, None, None, *call).cut), True)
            for call in self.calls((THREE, (), (("is", A, 5),)), ask, A):
                self.check(IsSure, "value", 5, *call)
            for call in self.calls((PAIR, (), ()), ask if ask == A else B, NEVER):
                self.check(IsSure, "value", None, *call)
        for call in self.calls((THREE, (), ()), DEEP, A):
            self.check(TooMany, "most", 200, *call)
        for call in self.calls(BAD, B, NEVER):
            self.check(NoTable, None, None, *call)

    def test_never_refused_last_of_all(self):
        self.check(NeverRefused, None, None, refusal_tells, (PAIR, (), ()), A, B)
        self.check(NeverRefused, None, None, refusal_tells, (PAIR, (), ()), NEVER, B)
        self.assertEqual(refused_at((PAIR, (), ()), A, B), [])
        self.assertIs(is_refused((PAIR, (), ()), A, B, {"a": (5,), "b": (2,)}), False)
        self.check(IsSure, "value", 5, refusal_tells, (PAIR, (), (("is", A, 5),)), B, A)

    def test_results_are_new(self):
        case = (PAIR, (), (("is", BEST, 5),))
        found = refused_at(case, A, A)
        found.clear()
        self.assertEqual(len(refused_at(case, A, A)), 2)
        tables = refusal_tells(case, A, A)[1]
        for table in tables:
            table.clear()
        self.assertEqual([list(table) for table in refusal_tells(case, A, A)[1]], [["a", "b"]] * 2)


if __name__ == "__main__":
    unittest.main()
