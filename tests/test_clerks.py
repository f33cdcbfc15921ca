"""Tests of [41]: clerks, who answer asks or refuse them."""

import itertools
import unittest

from countsfall.clerks import allowed, blind_replies, seeing_replies
from countsfall.errors import IsSure, NoTable, TooMany
from countsfall.further import answered, settling
from countsfall.sure import told
from countsfall.tables import fits, value_of
from countsfall.walks import is_cut
from tests.samples import A, ALL_OPEN, B, BEST, FIRM, LOOSE, MIXED, PAIR, TOP, WORST, tables_with, values_by

BIG = 10 ** 30
NEVER = ("rank", ("b",), 4)
TWO_B = ("rank", ("b",), 2)
ASKS = ((BEST, WORST), (B, BEST, WORST), (WORST, A), (TOP, TWO_B, BEST), (BEST, WORST, BEST), (NEVER, B, A), (A, A))
SECRETS = (A, B, WORST, ("kth", 2, (BEST, B, A)))
THREE = (("a", 0, None), ("b", 0, None), ("c", 0, None))
DEEP = ("rank", ("c",), 5)
CALLS = (blind_replies, seeing_replies)


def small_cases(house):
    """Return cases of a house with rungs from 0 to 5."""
    found = [(), (("is", BEST, 4),), (("count", ("a", "b"), 3, 1),), (("is", B, 2), ("count", ("a",), 4, 0)),
             (("is", BEST, 4), ("is", ("rank", ("a", "b"), 3), None))]
    return [(house, (), answers) for answers in found] + [(house, ((A, B),), (("is", WORST, 3),)), (house, ((WORST, A),), ())]


def samples():
    """Return cases that tables fit, with all such that have numbers beyond the rungs, and some that have none."""
    found = []
    for house in (PAIR, MIXED, LOOSE, FIRM):
        beyond, within = tables_with(house, range(-3, 9)), tables_with(house, (0, 2, 3, 4, 5))
        for case in small_cases(house):
            tables = [table for table in beyond if fits(case, table)]
            if tables:
                known = [table for table in within if fits(case, table)]
                found.append((case, tables, known[::1 + len(known) // 4]))
    return found


SAMPLES = samples()


def sure_values(tables, house, ask, secret):
    """Return the list of those values of an ask that tell a secret, but for the numbers at both ends."""
    values = values_by(tables, house, ask, secret)
    return [value for value in values if (value is None or -1 <= value <= 6) and len(values[value]) == 1]


def plain_replies(tables, house, asks, secret, table, sees):
    """Return the replies of a clerk by the words of the document."""
    replies = []
    for ask in asks:
        value = value_of(house, table, ask)
        sure = sure_values(tables, house, ask, secret)
        if (value in sure) if sees else sure:
            replies.append(("refused",))
        else:
            replies.append(("is", value))
            tables = [other for other in tables if value_of(house, other, ask) == value]
    return tuple(replies)


def is_sure_in(tables, house, secret):
    """Return whether a secret has the same value in all tables."""
    return len({value_of(house, table, secret) for table in tables}) == 1


class ClerkCase(unittest.TestCase):

    def check_is_sure(self, value, call, *arguments):
        with self.assertRaises(IsSure) as caught:
            call(*arguments)
        self.assertEqual([caught.exception.value, type(caught.exception.value)], [value, type(value)])

    def check_no_table(self, case, call, *arguments):
        with self.assertRaises(NoTable) as caught:
            call(case, *arguments)
        self.assertIs(is_cut(case, caught.exception.cut), True)

    def check_too_many(self, call, *arguments):
        with self.assertRaises(TooMany) as caught:
            call(*arguments)
        self.assertEqual(caught.exception.most, 200)


class RepliesTest(ClerkCase):

    def test_the_examples(self):
        table = {"a": (5,), "b": (2,)}
        self.assertEqual(blind_replies((PAIR, (), ()), (BEST, WORST), A, table), (("is", 5), ("refused",)))
        self.assertEqual(seeing_replies((PAIR, (), ()), (BEST, WORST), A, table), (("is", 5), ("is", 2)))
        self.assertEqual(allowed((PAIR, (), (("is", BEST, 5),)), (WORST, A), A), ())

    def test_against_all_tables(self):
        unlike = refused = answers = 0
        for (case, tables, known), secret in itertools.product(SAMPLES, SECRETS):
            house = case[0]
            if not is_sure_in(tables, house, secret):
                for asks, table in itertools.product(ASKS, known):
                    blind = plain_replies(tables, house, asks, secret, table, False)
                    seeing = plain_replies(tables, house, asks, secret, table, True)
                    self.assertEqual(blind_replies(case, asks, secret, table), blind, (case, asks, secret, table))
                    self.assertEqual(seeing_replies(case, asks, secret, table), seeing, (case, asks, secret, table))
                    unlike += any(one == ("refused",) != other for one, other in zip(blind, seeing))
                    refused += ("refused",) in seeing
                    answers += ("is", None) in blind
        self.assertGreater(min(unlike, refused, answers), 100)

    def test_blind_refusals_depend_on_the_answers_alone(self):
        for (case, tables, known), secret, asks in itertools.product(SAMPLES, SECRETS, ASKS[:5]):
            if not is_sure_in(tables, case[0], secret):
                seen = {}
                for table in known:
                    replies = blind_replies(case, asks, secret, table)
                    for many, reply in enumerate(replies):
                        # By the replies ahead of it, a reply is refused in all tables or in none.
                        self.assertIs(seen.setdefault(replies[:many], reply == ("refused",)), reply == ("refused",))
                    further = case
                    for ask, reply in zip(asks, replies):
                        further = answered(further, ask, reply[1]) if reply[0] == "is" else further
                    self.assertEqual(told(further, secret)[0], "open")

    def test_asks_that_stand_twice_and_no_asks(self):
        case, table = (PAIR, (), ()), {"a": (5,), "b": (2,)}
        for call in CALLS:
            self.assertEqual(call(case, (BEST, BEST, A, BEST, A), A, table), (
                ("is", 5), ("is", 5), ("refused",), ("is", 5), ("refused",)))
            self.assertEqual(call(case, (), A, table), ())
        self.assertEqual([allowed(case, (), A), allowed(case, (BEST, BEST, A, BEST), A)], [(), (0, 1, 3)])

    def test_a_seeing_clerk_answers_by_its_table(self):
        case = (PAIR, (), (("is", BEST, 5),))
        for a, b, expected in ((5, 2, ("is", 2)), (2, 5, ("is", 2)), (5, 5, ("refused",))):
            table = {"a": (a,), "b": (b,)}
            self.assertEqual(seeing_replies(case, (WORST,), A, table), (expected,))
            self.assertEqual(blind_replies(case, (WORST,), A, table), (("refused",),))

    def test_numbers_far_from_one_another(self):
        table = {"a": (BIG,), "b": (-BIG,)}
        self.assertEqual(blind_replies((PAIR, (), ()), (BEST, WORST), B, table), (("is", BIG), ("refused",)))
        self.assertEqual(seeing_replies((PAIR, (), ()), (BEST, WORST, A), B, table), (("is", BIG), ("is", -BIG), ("refused",)))
        self.assertEqual(seeing_replies((ALL_OPEN, (), ()), (A, TWO_B, BEST), ("rank", ("a", "b"), 3), {
            "a": (BIG, BIG), "b": (-BIG, 0, 1)}), (("is", BIG), ("is", 0), ("is", BIG)))

    def test_arguments_stay(self):
        table = {"b": (2,), "a": (5,)}
        blind_replies((PAIR, (), ()), (BEST, WORST), A, table)
        self.assertEqual([table, list(table)], [{"a": (5,), "b": (2,)}, ["b", "a"]])


class AllowedTest(ClerkCase):

    def test_against_blind_replies_of_one_ask(self):
        some = 0
        for (case, tables, known), secret in itertools.product(SAMPLES, SECRETS):
            if not is_sure_in(tables, case[0], secret):
                asks = (A, B, BEST, WORST, TWO_B, TOP, NEVER)
                found = allowed(case, asks, secret)
                for table in known:
                    expected = tuple(k for k, ask in enumerate(asks)
                                     if blind_replies(case, (ask,), secret, table) != (("refused",),))
                    self.assertEqual(found, expected)
                self.assertEqual(found, tuple(k for k, ask in enumerate(asks) if not settling(case, ask, secret)))
                self.assertEqual(found, tuple(
                    k for k, ask in enumerate(asks) if not sure_values(tables, case[0], ask, secret)))
                some += 0 < len(found) < len(asks)
        self.assertGreater(some, 20)


class ErrorsTest(ClerkCase):

    def calls(self, case, asks, secret, table):
        return [(call, case, asks, secret, table) for call in CALLS] + [(allowed, case, asks, secret)]

    def test_a_secret_that_is_sure(self):
        table = {"a": (5,), "b": (2,)}
        for asks in ((), (A, B), (DEEP,)):
            for call in self.calls((PAIR, (), (("is", A, 5),)), asks, A, table):
                self.check_is_sure(5, *call)
            for call in self.calls((PAIR, (), ()), asks, NEVER, table):
                self.check_is_sure(None, *call)
            for call in self.calls((LOOSE, (), (("is", BEST, None),)), asks, A, {"a": (), "b": ()}):
                self.check_is_sure(None, *call)

    def test_no_table_ahead_of_it(self):
        bad = (PAIR, (), (("is", BEST, 3), ("is", A, 5)))
        for secret in (A, NEVER):
            for call in self.calls(bad, (A,), secret, {"a": (5,), "b": (2,)}):
                self.check_no_table(call[1], call[0], *call[2:])
            for call in self.calls(bad, (), secret, {"a": (5,), "b": (2,)}):
                self.check_no_table(call[1], call[0], *call[2:])

    def test_too_many_ahead_of_all(self):
        table = {"a": (1,), "b": (2,), "c": ()}
        bad, good = (THREE, (), (("is", A, 5), ("is", A, 4))), (THREE, (), ())
        for case in (bad, good):
            for call in self.calls(case, (), DEEP, table) + self.calls((THREE, (), (("is", DEEP, None),)), (A,), A, table):
                self.check_too_many(*call)
        for call in self.calls(bad, (DEEP,), A, table):
            self.check_no_table(call[1], call[0], *call[2:])
        for call in self.calls((THREE, (), (("is", A, 1),)), (DEEP,), A, table):
            self.check_is_sure(1, *call)
        for call in self.calls(good, (DEEP,), A, table) + self.calls(good, (B, B, DEEP), A, table):
            self.check_too_many(*call)

    def test_answers_that_come_to_it(self):
        # What was refused does not count further on, what was answered does.
        house = (("a", 0, None), ("b", 0, None))
        table, deep = {"a": (1,), "b": (2,)}, ("rank", ("b",), 14)
        for call in CALLS:
            self.check_too_many(call, (house, (), ()), (deep, A), B, table)
        just = ("rank", ("b",), 13)
        self.assertEqual(len(blind_replies((house, (), ()), (just, A), B, table)), 2)


if __name__ == "__main__":
    unittest.main()
