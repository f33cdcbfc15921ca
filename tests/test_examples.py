"""Tests that the examples of the document, and of README.md, come out as they are written there."""

import doctest
import pathlib
import unittest

BEHIND_25 = '''
>>> from countsfall.ladders import ladder_of
>>> from countsfall.levels import caps_of, level_of, rungs_of
>>> from countsfall.numbered import many_fits
>>> from countsfall.walks import come_to, cut_of
>>> house = (("a", 1, 1), ("b", 0, None))
>>> answers = (("is", ("rank", ("a", "b"), 1), 5), ("count", ("b",), 3, 1))
>>> [rungs_of(answers), level_of([2, 3, 5], 4), caps_of(house, 2)]
[[2, 3, 5], 2, (1, 2)]
>>> come_to((house, (), answers))[1:]
[[(0, 1), (1, 1)], [(0, 1), (1, 0), (1, 1)], [(0, 0)]]
>>> ladder_of((house, (), answers))[2]
[(0, 1), (0, 2), (1, 0), (1, 1), (1, 2)]
>>> cut_of((house, (), (("is", ("rank", ("a",), 1), 5), ("is", ("rank", ("a", "b"), 1), 4)))) is None
False
>>> many_fits(((("a", 1, 1), ("b", 1, 1)), (), (("is", ("rank", ("a", "b"), 1), 5),)), 1, 9)
9
'''

BEHIND_28 = '''
>>> from countsfall.follow import follows, least_answers
>>> from countsfall.joint import is_kept, joint_places
>>> from countsfall.sure import places_of, told
>>> house = (("a", 1, 1), ("b", 1, 1), ("c", 1, 1))
>>> one, other = ("rank", ("a", "b"), 1), ("rank", ("a", "b"), 2)
>>> case = (house, (), (("is", one, 5), ("is", other, 2), ("is", ("rank", ("b", "c"), 1), 2)))
>>> told(case, ("rank", ("a",), 1))
('sure', 5)
>>> places_of(case, ("rank", ("c",), 1))
[('gap', None, 2), ('rung', 2)]
>>> joint_places((house, (), case[2][:2]), ("rank", ("a",), 1), ("rank", ("b",), 1))
[(('rung', 2), ('rung', 5)), (('rung', 5), ('rung', 2))]
>>> [least_answers(case, ("rank", ("a",), 1)), follows(case, ("count", ("b",), 2, 1))]
[[(0, 2)], True]
>>> is_kept(case, (("rank", ("c",), 1), ("rank", ("b",), 1)))
True
'''

BEHIND_33 = '''
>>> from countsfall.always import tells_always
>>> from countsfall.closed import all_told, bounds_told
>>> from countsfall.divisions import division_of, joined_up
>>> from countsfall.lots import least_lots, needed_asks
>>> from countsfall.readings import read_by, reading
>>> house = (("a", 1, 1), ("b", 1, 1))
>>> best, worst = ("rank", ("a", "b"), 1), ("rank", ("a", "b"), 2)
>>> one, two = ("rank", ("a",), 1), ("rank", ("b",), 1)
>>> [tells_always(house, (best, worst), one), tells_always(house, (best, worst, two), one)]
[False, True]
>>> told = reading(house, (best, worst, two), one)
>>> [told[((True, True, True), (True, False, False))], read_by(told, (5, 2, 2)), read_by(told, (5, 2, 5))]
[True, 5, 2]
>>> [least_lots(house, (best, worst, two), one), needed_asks(house, (one, two, one), one)]
[[(0, 1, 2)], {0: 'sometimes', 1: 'never', 2: 'sometimes'}]
>>> [all_told(house, (best, worst)), bounds_told(house, (best, worst), one)]
[[(), ((0, 1), (1, 0)), ((1, 1),)], (((1, 1),), ((0, 1), (1, 0)))]
>>> division_of(house, (best, worst))
(((0, 0),), ((0, 1), (1, 0)), ((1, 1),))
>>> joined_up(house, division_of(house, (one, two)), [((0, 0), (1, 1))])
(((0, 0), (0, 1), (1, 0), (1, 1)),)
'''

# As far as the example speaks of patterns, sometimes and silent: the asks are what lot_asks is to return.
BEHIND_38 = '''
>>> from countsfall.patterns import rows_of
>>> from countsfall.silent import silent_lots
>>> from countsfall.sometimes import is_told_in, tells_sometimes
>>> cells, lots = (("a", 1, 1), ("b", 1, 1), ("c", 1, 1)), (("a", "b"), ("a", "c"))
>>> asks, a, b = tuple(("rank", lot, 1) for lot in lots), ("rank", ("a",), 1), ("rank", ("b",), 1)
>>> rows_of(cells, asks)[:2]
[((True, True), (False, False)), ((True, True), (False, True), (False, False))]
>>> [tells_sometimes(cells, asks, a), is_told_in(cells, asks, b, {"a": (1,), "b": (2,), "c": (1,)})]
[None, True]
>>> silent_lots(cells, asks, b)
[(0,), (1,)]
'''


class ExamplesTest(unittest.TestCase):

    def check(self, name, text):
        example = doctest.DocTestParser().get_doctest(text, {}, name, None, None)
        report = []
        result = doctest.DocTestRunner().run(example, out=report.append)
        self.assertEqual([result.failed, result.attempted > 7], [0, True], "".join(report))

    def test_of_the_readme(self):
        text = (pathlib.Path(__file__).resolve().parent.parent / "README.md").read_text(encoding="ascii")
        self.check("README.md", text.split("```")[1])

    def test_behind_25(self):
        self.check("behind [25]", BEHIND_25)

    def test_behind_28(self):
        self.check("behind [28]", BEHIND_28)

    def test_behind_33(self):
        self.check("behind [33]", BEHIND_33)

    def test_behind_38(self):
        self.check("behind [38]", BEHIND_38)


if __name__ == "__main__":
    unittest.main()
