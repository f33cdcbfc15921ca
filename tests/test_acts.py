"""Tests of [45] and of [10]: what scripts make of counts."""

import itertools
import random
import unittest

from countsfall.acts import counts_behind, marks_of
from countsfall.deeds import done, freed
from countsfall.falls import counts_at
from countsfall.levels import level_of
from tests.samples import HELD, LOOSE, MIXED, OPEN, PAIR, is_within, tables_with
from tests.test_deeds import DEEDS

BIG = 10 ** 30
CELLS = (("a", 1, 1), ("b", 1, 1), ("c", 0, 2))


def plain_behind(house, script, number, counts):
    """Return the counts behind a script at a number, deed by deed, by the words of the document."""
    many = {sort[0]: item for sort, item in zip(house, counts)}
    for deed in script:
        kind, name = deed[:2]
        if kind == "come":
            many[name] += 1 if number <= deed[2] else 0
        elif kind in ("go", "move"):
            if many[name] >= deed[2]:
                many[name] -= 1
                if kind == "move":
                    many[deed[3]] += 1
        elif kind == "keep":
            many[name] = min(many[name], deed[2])
        else:
            many[deed[2]] += many[name]
            many[name] = 0
    return tuple(many[sort[0]] for sort in house)


def some_scripts(seed, many, most, deeds=DEEDS):
    """Return so many scripts of up to most of some deeds, the same ones for the same seed."""
    chosen = random.Random(seed)
    return [tuple(chosen.choice(deeds) for _ in range(chosen.randint(0, most))) for _ in range(many)]


class MarksTest(unittest.TestCase):

    def test_marks(self):
        self.assertEqual([marks_of(()), marks_of((("go", "a", 3), ("keep", "a", 0), ("merge", "a", "b")))], [[], []])
        script = (("come", "a", 5), ("go", "a", 7), ("come", "b", -2), ("come", "b", 5), ("come", "a", BIG), ("come", "a", -BIG))
        self.assertEqual(marks_of(script), [-BIG, -2, 5, BIG])
        self.assertEqual(marks_of(script[::-1]), [-BIG, -2, 5, BIG])


class BehindTest(unittest.TestCase):

    def test_the_example(self):
        house = (("a", 0, 3), ("b", 0, 3))
        script = (("move", "a", 1, "b"), ("come", "a", 4))
        self.assertEqual([counts_behind(house, script, number, (2, 1)) for number in (4, 5)], [(2, 2), (1, 2)])

    def test_the_table_behind_a_script(self):
        for house in (PAIR, MIXED, LOOSE, OPEN):
            tables = tables_with(house, (-1, 0, 2, 3))
            for script in some_scripts(7, 150, 6):
                numbers = [-BIG, -3, -2, -1, 0, 1, 2, 3, 4, 5, BIG - 1, BIG, BIG + 1]
                for table in tables[::11]:
                    behind = done(house, table, script)
                    for number in numbers:
                        self.assertEqual(counts_behind(house, script, number, counts_at(house, table, number)),
                                         counts_at(freed(house), behind, number), (house, script, table, number))

    def test_against_the_words(self):
        for house in (PAIR, LOOSE):
            for script in some_scripts(3, 300, 12):
                for number in (-2, -1, 0, 2, 3):
                    for counts in itertools.product((0, 1, 2, 3, 9), repeat=2):
                        found = counts_behind(house, script, number, counts)
                        self.assertEqual(found, plain_behind(house, script, number, counts))
                        self.assertIsInstance(found, tuple)

    def test_at_below_and_above_a_mark(self):
        script = (("come", "a", 5), ("come", "b", 5), ("come", "a", 7))
        self.assertEqual([counts_behind(PAIR, script, number, (0, 1)) for number in (-BIG, 4, 5, 6, 7, 8, BIG)],
                         [(2, 2)] * 3 + [(1, 1)] * 2 + [(0, 1)] * 2)

    def test_the_same_in_a_stretch(self):
        for script in some_scripts(5, 100, 8):
            marks, known = marks_of(script), {}
            for number in range(-4, 6):
                found = counts_behind(LOOSE, script, number, (2, 1))
                self.assertEqual(known.setdefault(level_of(marks, number), found), found)

    def test_counts_far_beyond_the_bounds(self):
        script = (("move", "a", 9, "b"), ("go", "b", 9), ("come", "c", 4), ("merge", "c", "a"), ("keep", "b", 9), ("go", "a", 1))
        self.assertEqual(counts_behind(CELLS, script, 4, (10 ** 20, 10 ** 25, 77)), (10 ** 20 - 1 + 78 - 1, 9, 0))
        self.assertEqual(counts_behind(CELLS, script, 5, (0, 0, 0)), (0, 0, 0))
        self.assertEqual(counts_behind(CELLS, (), 5, (8, 9, 10 ** 30)), (8, 9, 10 ** 30))
        for script in some_scripts(9, 60, 6, (("go", "d", 9), ("keep", "b", 9), ("move", "d", 3, "b"), ("merge", "b", "d"))):
            for counts in itertools.product((0, 2, 3, 8, 9, 10, 40), repeat=2):
                self.assertEqual(counts_behind(HELD, script, 0, counts), plain_behind(HELD, script, 0, counts))

    def test_counts_within_others_stay_so(self):
        known = list(itertools.product(range(5), repeat=2))
        for script in some_scripts(11, 200, 8):
            for number in (-1, 1, 3):
                behind = [counts_behind(LOOSE, script, number, counts) for counts in known]
                for one, other in itertools.product(range(len(known)), repeat=2):
                    if is_within(known[one], known[other]):
                        self.assertIs(is_within(behind[one], behind[other]), True)

    def test_counts_fall_as_a_number_rises(self):
        for script in some_scripts(13, 200, 8):
            for counts in itertools.product(range(4), repeat=2):
                behind = [counts_behind(LOOSE, script, number, counts) for number in range(-3, 6)]
                for one, other in zip(behind, behind[1:]):
                    self.assertIs(is_within(other, one), True)


if __name__ == "__main__":
    unittest.main()
