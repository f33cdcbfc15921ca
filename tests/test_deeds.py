"""Tests of [44]: deeds and scripts."""

import itertools
import unittest

from countsfall.deeds import done, freed, is_deed, is_script
from countsfall.forms import is_house, is_table
from tests.samples import ALL_OPEN, EMPTY, HELD, HOUSES, LOOSE, MIXED, ODD_VALUES, OPEN, PAIR, broken, tables_with

BIG = 10 ** 30
DEEDS = (
    ("come", "a", 2), ("come", "b", -1), ("go", "a", 1), ("go", "b", 2), ("move", "a", 1, "b"), ("move", "b", 2, "a"),
    ("move", "b", 3, "a"), ("keep", "a", 1), ("keep", "b", 0), ("keep", "b", 2), ("merge", "a", "b"), ("merge", "b", "a"),
    ("go", "b", 9), ("come", "a", BIG))


def plain_done(table, script):
    """Return the table behind a script, row by row, by the words of the document."""
    rows = [(name, number) for name in sorted(table) for number in table[name]]
    for deed in script:
        kind, name = deed[:2]
        ranked = sorted([row for row in rows if row[0] == name], key=lambda row: row[1], reverse=True)
        if kind == "come":
            rows.append((name, deed[2]))
        elif kind == "go" and len(ranked) >= deed[2]:
            rows.remove(ranked[deed[2] - 1])
        elif kind == "move" and len(ranked) >= deed[2]:
            rows.remove(ranked[deed[2] - 1])
            rows.append((deed[3], ranked[deed[2] - 1][1]))
        elif kind == "keep":
            for row in ranked[deed[2]:]:
                rows.remove(row)
        elif kind == "merge":
            rows = [(deed[2], number) if own == name else (own, number) for own, number in rows]
    return {name: tuple(sorted(number for own, number in rows if own == name)) for name in sorted(table)}


class IsDeedTest(unittest.TestCase):

    def test_deeds(self):
        for deed in DEEDS:
            for house in (PAIR, MIXED, LOOSE, ALL_OPEN):
                self.assertEqual([is_deed(house, deed), is_script(house, (deed,))], [True, True], deed)
            self.assertEqual([is_deed(EMPTY, deed), is_deed(HELD, deed)], [deed in (
                ("come", "a", 2), ("go", "a", 1), ("keep", "a", 1), ("come", "a", BIG)), deed in (
                ("come", "b", -1), ("go", "b", 2), ("keep", "b", 0), ("keep", "b", 2), ("go", "b", 9))])

    def test_other_parts(self):
        for deed in DEEDS:
            for thing in broken(deed):
                # Another integer is one of those that may stand there.
                if repr(thing) != repr(deed) and not (isinstance(thing, tuple) and len(thing) == len(deed) and thing[2] == 5 and type(
                        thing[2]) is int and thing[:2] + thing[3:] == deed[:2] + deed[3:] and deed[0] != "merge"):
                    self.assertIs(is_deed(PAIR, thing), False, thing)
                    self.assertIs(is_script(PAIR, (deed, thing)), False, thing)
            self.assertIs(is_deed(PAIR, deed[:-1]), False)
            self.assertIs(is_deed(PAIR, deed + ("a",)), False)
            self.assertIs(is_deed(PAIR, deed + (1,)), False)
            self.assertIs(is_deed(PAIR, deed + (1, 1)), False)
            self.assertIs(is_deed(PAIR, deed[:3] + ("b", "b")), False)
            self.assertIs(is_deed(PAIR, list(deed)), False)

    def test_any_value(self):
        for thing in ODD_VALUES:
            self.assertIs(is_deed(PAIR, thing), False, thing)
            self.assertIs(is_script(PAIR, thing), thing == (), thing)
            self.assertIs(is_script(PAIR, (thing,)), False, thing)
            for kind in ("come", "go", "keep", "move", "merge"):
                self.assertIs(is_deed(PAIR, (kind, thing, 1)), kind in ("come", "go", "keep") and thing in ("a", "b"), thing)
                integer = isinstance(thing, int) and not isinstance(thing, bool)
                expected = {"come": integer, "go": integer and thing >= 1, "keep": integer and thing >= 0,
                            "move": False, "merge": thing == "b"}
                self.assertIs(is_deed(PAIR, (kind, "a", thing)), expected[kind], (kind, thing))
                self.assertIs(is_deed(PAIR, (kind, "a", thing, "b")), kind == "move" and expected["go"], (kind, thing))
                self.assertIs(is_deed(PAIR, (kind, "a", 1, thing)), kind == "move" and thing == "b", (kind, thing))

    def test_the_same_name_twice(self):
        for thing in (("move", "a", 1, "a"), ("merge", "a", "a"), ("move", "b", 1, "b"), ("merge", "b", "b")):
            self.assertIs(is_deed(PAIR, thing), False)

    def test_truths_and_ranks(self):
        for thing in (("come", "a", True), ("go", "a", True), ("keep", "a", False), ("move", "a", True, "b"), ("go", "a", 0),
                      ("move", "a", 0, "b"), ("go", "a", -1), ("keep", "a", -1), ("come", "a", None)):
            self.assertIs(is_deed(PAIR, thing), False, thing)
        for thing in (("keep", "a", 0), ("go", "a", 10), ("keep", "b", BIG), ("move", "a", 77, "b"), ("come", "a", -10 ** 39)):
            self.assertIs(is_deed(PAIR, thing), True, thing)

    def test_long_scripts(self):
        self.assertEqual([is_script(PAIR, ()), is_script(PAIR, DEEDS), is_script(PAIR, DEEDS * 30), is_script(PAIR, list(DEEDS))],
                         [True, True, True, False])
        self.assertEqual([is_script(PAIR, DEEDS[0]), is_script(PAIR, DEEDS[:3] + (DEEDS[3:],))], [False, False])


class DoneTest(unittest.TestCase):

    def test_the_example(self):
        house = (("a", 0, 3), ("b", 0, 3))
        script = (("move", "a", 1, "b"), ("come", "a", 4))
        self.assertEqual(done(house, {"a": (2, 5), "b": (4,)}, script), {"a": (2, 4), "b": (4, 5)})

    def test_freed_houses(self):
        for house in HOUSES:
            found = freed(house)
            self.assertEqual(found, tuple((name, 0, None) for name, _, _ in house))
            self.assertIs(is_house(found), True)
            self.assertEqual(freed(found), found)

    def check(self, house, table, script):
        found = done(house, table, script)
        self.assertEqual(found, plain_done(table, script), (table, script))
        self.assertEqual(list(found), sorted(found))
        self.assertIs(is_table(freed(house), found), True)

    def test_against_the_words(self):
        for house in (LOOSE, OPEN, PAIR):
            for table in tables_with(house, (-1, 0, 2), 2):
                for size in range(3):
                    for script in itertools.product(DEEDS, repeat=size):
                        self.check(house, table, script)
        for number, script in enumerate(itertools.permutations(DEEDS[:8], 5)):
            if number % 60 == 0:
                for table in tables_with(LOOSE, (1, 2))[::2]:
                    self.check(LOOSE, table, script)

    def test_each_kind_of_deed(self):
        house = (("a", 0, 9), ("b", 0, 9))
        for rows in ((), (7,), (4, 7), (4, 4), (1, 4, 7), (4, 4, 4, 7)):
            table = {"b": (4,), "a": rows}
            self.assertEqual(done(house, table, (("come", "a", 5),))["a"], tuple(sorted(rows + (5,))))
            # None, just k, fewer and more than k.
            gone = rows if len(rows) < 2 else rows[:-2] + rows[-1:]
            self.assertEqual(done(house, table, (("go", "a", 2),)), {"a": gone, "b": (4,)})
            moved = (4,) if len(rows) < 2 else tuple(sorted((4, rows[-2])))
            self.assertEqual(done(house, table, (("move", "a", 2, "b"),)), {"a": gone, "b": moved})
            self.assertEqual(done(house, table, (("keep", "a", 2),)), {"a": rows[-2:], "b": (4,)})
            self.assertEqual(done(house, table, (("keep", "a", 0),)), {"a": (), "b": (4,)})
            self.assertEqual(done(house, table, (("merge", "a", "b"),)), {"a": (), "b": tuple(sorted(rows + (4,)))})
            self.assertEqual(done(house, table, ()), {"a": rows, "b": (4,)})

    def test_two_scripts_one_after_the_other(self):
        for one, other in itertools.product(itertools.combinations(DEEDS, 3), repeat=2):
            if one[0] != other[0]:
                table = {"a": (0, 2), "b": (1,)}
                both = done(freed(LOOSE), done(LOOSE, table, one), other)
                self.assertEqual(both, done(LOOSE, table, one + other))

    def test_many_rows_behind(self):
        script = tuple(("come", "a", number % 3) for number in range(12))
        table = done(PAIR, {"a": (1,), "b": (1,)}, script)
        self.assertEqual(table, {"a": (0,) * 4 + (1,) * 5 + (2,) * 4, "b": (1,)})
        self.assertEqual(len(done(PAIR, table, script + (("merge", "b", "a"),))["a"]), 26)

    def test_tables_stay_and_are_new(self):
        table = {"b": (4,), "a": (2, 5)}
        found = done(LOOSE, table, ())
        found["a"] = (9,)
        self.assertEqual([table, list(table)], [{"a": (2, 5), "b": (4,)}, ["b", "a"]])
        self.assertEqual(list(done(LOOSE, table, (("merge", "b", "a"),)).items()), [("a", (2, 4, 5)), ("b", ())])


if __name__ == "__main__":
    unittest.main()
