"""The examples of the document, as they are written there, by the promise that each stands behind."""


BEHIND_16 = r'''
>>> from countsfall.houses import cells_of, renamed_formula
>>> from countsfall.reader import read_case
>>> from countsfall.tables import fits, value_of
>>> from countsfall.texts import show_formula
>>> house = (("a", 1, 1), ("b", 0, 2), ("c", 0, None))
>>> formula = ("kth", 1, (("rank", ("a",), 1), ("rank", ("b", "c"), 2)))
>>> table = {"c": (7,), "b": (3, 5), "a": (4,)}
>>> [cells_of(house), value_of(house, table, formula), show_formula(formula)]
[('a',), 5, '( kth 1 ( rank 1 a ) ( rank 2 b c ) )']
>>> renamed_formula(("rank", ("b", "c"), 2), {"a": "x", "b": "z", "c": "y"})
('rank', ('y', 'z'), 2)
>>> case = read_case("sort b 0 2\nsort a 1 1\n# asked\nis ( rank 1 a b ) 5\ncount 5 1 b")
>>> [case[1:], fits(case, {"a": (4,), "b": (3, 5)}), fits(case, {"a": (5,), "b": (5, 5)})]
[((), (('is', ('rank', ('a', 'b'), 1), 5), ('count', ('b',), 5, 1))), True, False]
'''

BEHIND_18 = r'''
>>> from countsfall.falls import counts_at, fall_of, table_of
>>> from countsfall.kinds import all_kinds, coarser_kinds, kind_of, kinds_many, tables_many, value_place
>>> house = (("a", 1, 1), ("b", 0, 2))
>>> table = {"a": (4,), "b": (3, 4)}
>>> [counts_at(house, table, 4), fall_of(house, table), kind_of(house, table)]
[(1, 1), ((3, (1, 2)), (4, (1, 1))), ((1, 2), (1, 1))]
>>> table_of(house, ((-1, (1, 2)), (0, (0, 2)), (6, (0, 1))))
{'a': (-1,), 'b': (0, 6)}
>>> value_place(house, ((1, 2), (0, 2), (0, 1)), ("rank", ("a", "b"), 2))
1
>>> coarser_kinds(house, ((1, 2), (0, 2), (0, 1)))
[((1, 2),), ((1, 2), (0, 1)), ((1, 2), (0, 2)), ((1, 2), (0, 2), (0, 1))]
>>> cells = (("a", 1, 1), ("b", 1, 1))
>>> [all_kinds(cells), kinds_many(house), tables_many(cells, 5, 7)]
[[((1, 1),), ((1, 1), (0, 1)), ((1, 1), (1, 0))], 12, 9]
'''

BEHIND_21 = r'''
>>> from countsfall.likeness import is_never_above, never_above
>>> from countsfall.shapes import matters, settled_formula, turned_formula
>>> from countsfall.ways import ways_formula, ways_of
>>> house = (("a", 1, 1), ("b", 1, 1))
>>> best, worst, one = ("rank", ("a", "b"), 1), ("rank", ("a", "b"), 2), ("rank", ("a",), 1)
>>> [ways_of(house, best), ways_of(house, worst), ways_formula(house, ((1, 1),))]
[[(0, 1), (1, 0)], [(1, 1)], ('kth', 2, (('rank', ('a',), 1), ('rank', ('b',), 1)))]
>>> [never_above(house, (best, worst, one)), is_never_above(house, one, worst)]
[[(1, 0), (1, 2), (2, 0)], False]
>>> [matters(house, ("kth", 1, (worst, one))), settled_formula(house, ("kth", 1, (worst, one)))]
[('a',), ('rank', ('a',), 1)]
>>> turned_formula(house, best) == settled_formula(house, worst)
True
>>> open_house = (("a", 0, None), ("b", 2, 3))
>>> ways_of(open_house, ("rank", ("a", "b"), 2))
[(0, 2), (1, 1), (2, 0)]
'''

BEHIND_25 = r'''
>>> from countsfall.ladders import ladder_of
>>> from countsfall.levels import caps_of, level_of, rungs_of
>>> from countsfall.numbered import many_fits
>>> from countsfall.walks import come_to, cut_of
>>> house = (("a", 1, 1), ("b", 0, None))
>>> answers = (("is", ("rank", ("a", "b"), 1), 5), ("count", ("b",), 3, 1))
>>> [rungs_of(answers), level_of([2, 3, 5], 4), caps_of(house, 2)]
[[2, 3, 5], 2, (1, 2)]
>>> come_to((house, (), answers))[1:]
[[(0, 1), (1, 1)], [(0, 1), (1, 0), (1, 1)], [(0, 0)]]
>>> ladder_of((house, (), answers))[2]
[(0, 1), (0, 2), (1, 0), (1, 1), (1, 2)]
>>> cut_of((house, (), (("is", ("rank", ("a",), 1), 5), ("is", ("rank", ("a", "b"), 1), 4)))) is None
False
>>> many_fits(((("a", 1, 1), ("b", 1, 1)), (), (("is", ("rank", ("a", "b"), 1), 5),)), 1, 9)
9
'''

BEHIND_28 = r'''
>>> from countsfall.follow import follows, least_answers
>>> from countsfall.joint import is_kept, joint_places
>>> from countsfall.sure import places_of, told
>>> house = (("a", 1, 1), ("b", 1, 1), ("c", 1, 1))
>>> one, other = ("rank", ("a", "b"), 1), ("rank", ("a", "b"), 2)
>>> case = (house, (), (("is", one, 5), ("is", other, 2), ("is", ("rank", ("b", "c"), 1), 2)))
>>> told(case, ("rank", ("a",), 1))
('sure', 5)
>>> places_of(case, ("rank", ("c",), 1))
[('gap', None, 2), ('rung', 2)]
>>> joint_places((house, (), case[2][:2]), ("rank", ("a",), 1), ("rank", ("b",), 1))
[(('rung', 2), ('rung', 5)), (('rung', 5), ('rung', 2))]
>>> [least_answers(case, ("rank", ("a",), 1)), follows(case, ("count", ("b",), 2, 1))]
[[(0, 2)], True]
>>> is_kept(case, (("rank", ("c",), 1), ("rank", ("b",), 1)))
True
'''

BEHIND_33 = r'''
>>> from countsfall.always import tells_always
>>> from countsfall.closed import all_told, bounds_told
>>> from countsfall.divisions import division_of, joined_up
>>> from countsfall.lots import least_lots, needed_asks
>>> from countsfall.readings import read_by, reading
>>> house = (("a", 1, 1), ("b", 1, 1))
>>> best, worst = ("rank", ("a", "b"), 1), ("rank", ("a", "b"), 2)
>>> one, two = ("rank", ("a",), 1), ("rank", ("b",), 1)
>>> [tells_always(house, (best, worst), one), tells_always(house, (best, worst, two), one)]
[False, True]
>>> told = reading(house, (best, worst, two), one)
>>> [told[((True, True, True), (True, False, False))], read_by(told, (5, 2, 2)), read_by(told, (5, 2, 5))]
[True, 5, 2]
>>> [least_lots(house, (best, worst, two), one), needed_asks(house, (one, two, one), one)]
[[(0, 1, 2)], {0: 'sometimes', 1: 'never', 2: 'sometimes'}]
>>> [all_told(house, (best, worst)), bounds_told(house, (best, worst), one)]
[[(), ((0, 1), (1, 0)), ((1, 1),)], (((1, 1),), ((0, 1), (1, 0)))]
>>> division_of(house, (best, worst))
(((0, 0),), ((0, 1), (1, 0)), ((1, 1),))
>>> joined_up(house, division_of(house, (one, two)), [((0, 0), (1, 1))])
(((0, 0), (0, 1), (1, 0), (1, 1)),)
'''

BEHIND_38 = r'''
>>> from countsfall.best import lot_asks, safe_cells, shadows_of
>>> from countsfall.patterns import rows_of
>>> from countsfall.silent import silent_lots
>>> from countsfall.sometimes import is_told_in, tells_sometimes
>>> from countsfall.stays import days_for_all, safe_names
>>> cells, lots = (("a", 1, 1), ("b", 1, 1), ("c", 1, 1)), (("a", "b"), ("a", "c"))
>>> asks, a, b = lot_asks(lots), ("rank", ("a",), 1), ("rank", ("b",), 1)
>>> rows_of(cells, asks)[:2]
[((True, True), (False, False)), ((True, True), (False, True), (False, False))]
>>> [shadows_of(lots, "a"), shadows_of(lots, "b"), safe_cells(cells, lots)]
[('b', 'c'), (), ('a',)]
>>> [tells_sometimes(cells, asks, a), is_told_in(cells, asks, b, {"a": (1,), "b": (2,), "c": (1,)})]
[None, True]
>>> silent_lots(cells, asks, b)
[(0,), (1,)]
>>> stays = {"ann": (1, 2), "bob": (2, 3), "cy": (1, 2, 3)}
>>> [safe_names(stays, (1, 2, 3)), days_for_all(stays, (1, 2, 3))]
[('cy',), [(1,), (2,), (3,)]]
'''

BEHIND_40 = r'''
>>> from countsfall.further import branches, next_asks
>>> from countsfall.trees import fewest_asks, is_finding, told_by_way, walk_tree
>>> pair = (("a", 1, 1), ("b", 1, 1))
>>> best, worst, a, b = ("rank", ("a", "b"), 1), ("rank", ("a", "b"), 2), ("rank", ("a",), 1), ("rank", ("b",), 1)
>>> case = (pair, (), (("is", best, 5),))
>>> branches(case, worst)
[(('gap', None, 5), 4), (('rung', 5), 5)]
>>> next_asks(case, (worst, b), a)
((), (0, 1))
>>> [fewest_asks(pair, (best, worst, b), a, most) for most in (2, 3)]
[None, 3]
>>> tree = ("ask", 2, ((0, ("ask", 0, ((1, ("ask", 1, ((0, ("leaf",)), (1, ("leaf",))))), (2, ("leaf",))))),))
>>> is_finding(pair, (best, worst, b), a, tree)
True
>>> walk_tree(pair, (best, worst, b), tree, {"a": (4,), "b": (7,)})
[(2, 7), (0, 7), (1, 4)]
>>> told_by_way(pair, (best, worst, b), a, [(2, 7), (0, 7), (1, 4)])
('sure', 4)
'''

BEHIND_43 = r'''
>>> from countsfall.clerks import allowed, blind_replies, seeing_replies
>>> from countsfall.refusals import refusal_tells, refused_at
>>> from countsfall.roles import breaches, least_rights
>>> pair = (("a", 1, 1), ("b", 1, 1))
>>> best, worst, a = ("rank", ("a", "b"), 1), ("rank", ("a", "b"), 2), ("rank", ("a",), 1)
>>> table = {"a": (5,), "b": (2,)}
>>> blind_replies((pair, (), ()), (best, worst), a, table)
(('is', 5), ('refused',))
>>> seeing_replies((pair, (), ()), (best, worst), a, table)
(('is', 5), ('is', 2))
>>> case = (pair, (), (("is", best, 5),))
>>> [refused_at(case, worst, a), refusal_tells(case, worst, a), allowed(case, (worst, a), a)]
[[(('rung', 5), 5, 5)], ('sure', 5), ()]
>>> breaches(pair, (best, worst), {"x": (0,), "y": (1,), "z": (0, 1)}, a)
[('x', 'y'), ('z',)]
>>> least_rights(pair, (best, worst), (best,), (a,))
[(0,)]
'''

BEHIND_47 = r'''
>>> from countsfall.acts import counts_behind
>>> from countsfall.deeds import done
>>> from countsfall.past import formula_before, lost_tables
>>> from countsfall.scripts import same_acts
>>> house = (("a", 0, 3), ("b", 0, 3))
>>> script = (("move", "a", 1, "b"), ("come", "a", 4))
>>> done(house, {"a": (2, 5), "b": (4,)}, script)
{'a': (2, 4), 'b': (4, 5)}
>>> [counts_behind(house, script, number, (2, 1)) for number in (4, 5)]
[(2, 2), (1, 2)]
>>> [same_acts(house, (("keep", "a", 1), ("keep", "a", 2)), (("keep", "a", 1),)), same_acts(house, script, script[::-1])]
[True, False]
>>> formula_before(house, (("keep", "a", 0),), ("rank", ("a",), 1)) is None
True
>>> [lost_tables(house, script[:1], ("rank", ("a", "b"), 2)), lost_tables(house, script[:1], ("rank", ("a",), 1)) is None]
[None, False]
'''

BEHIND_50 = r'''
>>> from countsfall.book import Book
>>> from countsfall.desk import Desk
>>> from countsfall.extracts import extract_of, occurring, shows
>>> house = (("a", 1, 1), ("b", 1, 1))
>>> best, worst, mine = ("rank", ("a", "b"), 1), ("rank", ("a", "b"), 2), ("rank", ("a",), 1)
>>> book = Book(house)
>>> [book.put(0, ("is", best, 5)), book.put(0, ("is", worst, 5)), book.told(mine), book.since(mine)]
[None, None, ('sure', 5), 2]
>>> [book.rows()[0], occurring(book.case())]
[('is', ('rank', ('a', 'b'), 2), 5), [[(1, 1)], [(0, 0)]]]
>>> paper = extract_of(book.case(), mine)
>>> [shows(book.case(), mine, 5, paper), shows(book.case(), mine, None, paper), shows(book.case(), mine, 4, paper)]
[True, False, False]
>>> desk = Desk("sort a 1 1\nsort b 1 1")
>>> [desk.execute("put is ( rank 1 a b ) 5"), desk.execute("told ( rank 1 a )"), desk.execute("put count 6 1 a")]
[['done'], ['open', 'gap - 5', 'rung 5'], ['refused NoTable']]
>>> [desk.execute("since ( rank 1 a )"), desk.execute("rows")]
[['never'], ['is ( rank 1 a b ) 5']]
'''
