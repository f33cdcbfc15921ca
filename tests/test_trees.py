"""Tests of [40] and of [9]: trees of asks."""

import itertools
import unittest

from countsfall.errors import TooMany
from countsfall.sure import told
from countsfall.tables import value_of
from countsfall.trees import fewest_asks, is_finding, is_tree, least_tree, told_by_way, tree_depth, walk_tree
from tests.samples import A, B, BEST, FIRM, LOOSE, MIXED, ODD_VALUES, OPEN, PAIR, TOP, WORST, broken, tables_with

BIG = 10 ** 30
NEVER = ("rank", ("b",), 4)
TWO_B = ("rank", ("b",), 2)
CELLS = (("a", 1, 1), ("b", 1, 1), ("c", 1, 1))
ABC, MID, LOW = ("rank", ("a", "b", "c"), 1), ("rank", ("a", "b", "c"), 2), ("rank", ("a", "b", "c"), 3)
LEAF = ("leaf",)
EXAMPLE = ("ask", 2, ((0, ("ask", 0, ((1, ("ask", 1, ((0, LEAF), (1, LEAF)))), (2, LEAF)))),))
THREE = (("a", 0, None), ("b", 0, None), ("c", 0, None))
DEEP = ("rank", ("c",), 5)
SAMPLES = (
    (PAIR, (BEST, WORST, B)), (PAIR, (A, B)), (PAIR, (WORST, B, WORST)), (MIXED, (BEST, WORST, B)), (MIXED, (A, TWO_B, BEST)),
    (MIXED, (NEVER, TOP)), (LOOSE, (BEST, B, ("rank", ("a", "b"), 3))), (LOOSE, (WORST, A)), (FIRM, (B, BEST, WORST, TOP)),
    (CELLS, (("rank", ("a", "b"), 1), ("rank", ("a", "c"), 1), ("rank", ("b", "c"), 1))), (CELLS, (ABC, MID, LOW, B)))
FORMULAS = (A, B, WORST, ("kth", 2, (A, B, TWO_B)), NEVER, LOW)


def tables_of(house):
    """Return all small tables of a house, and those among them with spaced numbers."""
    # Four cells can have four different numbers.
    all_tables = tables_with(house, range(1, 8 if len(house) < 4 else 10), 3)
    return all_tables, [table for table in all_tables if all(number % 2 == 0 for name in table for number in table[name])]


def plain_position(known, value):
    """Return the position of an answer by the words of the document."""
    if value is None:
        return -1
    known = sorted({number for number in known if number is not None})
    return 2 * known.index(value) + 1 if value in known else 2 * len([number for number in known if number < value])


class Plain:
    """Trees of asks by all small tables of a house."""

    def __init__(self, house, asks, formula):
        self.house, self.asks, self.formula = house, asks, formula
        self.all_tables, some = tables_of(house)
        self.values = [tuple(value_of(house, table, ask) for ask in asks) for table in some]
        self.found = {}
        self.known = {}

    def is_sure(self, way, values):
        """Return whether in all tables with the values of the asks of a way the formula has one value."""
        if way not in self.found:
            self.found[way] = {}
            for table in self.all_tables:
                key = tuple(value_of(self.house, table, self.asks[k]) for k in way)
                self.found[way].setdefault(key, set()).add(value_of(self.house, table, self.formula))
        return len(self.found[way][tuple(values[k] for k in way)]) == 1

    def parts(self, way, some, ask):
        """Return the dict from each position of an ask behind a way to the values of asks in the tables that have it."""
        found = {}
        for values in some:
            found.setdefault(plain_position([values[k] for k in way], values[ask]), []).append(values)
        return found

    def fewest(self, way, some, most):
        """Return the least depth of a tree behind a way, None if it is greater than most."""
        key = (frozenset(way), tuple(some), most)
        if key not in self.known:
            self.known[key] = self.fewest_anew(way, some, most)
        return self.known[key]

    def fewest_anew(self, way, some, most):
        if all(self.is_sure(tuple(sorted(way)), values) for values in some):
            return 0
        depths = []
        for ask in [k for k in range(len(self.asks)) if k not in way] if most > 0 else ():
            parts = [self.fewest(way + (ask,), part, most - 1) for part in self.parts(way, some, ask).values()]
            if None not in parts:
                depths.append(1 + max(parts))
        return min(depths, default=None)

    def is_finding(self, tree, way, some):
        """Return whether a tree, which is one, finds the formula."""
        if tree == LEAF:
            return all(self.is_sure(way, values) for values in some)
        parts = self.parts(way, some, tree[1])
        return all(self.is_finding(branch, way + (tree[1],), parts[position]) for position, branch in tree[2])

    def is_tree(self, thing, way, some):
        """Return whether thing, a nested tuple like a tree, is one."""
        if thing == LEAF:
            return True
        _, index, branches = thing
        if index in way or not 0 <= index < len(self.asks):
            return False
        parts = self.parts(way, some, index)
        return [branch[0] for branch in branches] == sorted(parts) and all(
            self.is_tree(branch, way + (index,), parts[position]) for position, branch in branches)

    def full_tree(self, way, some, order):
        """Return the tree that asks all asks of a tuple of indexes, one after the other."""
        if not order:
            return LEAF
        parts = self.parts(way, some, order[0])
        return ("ask", order[0], tuple(
            (position, self.full_tree(way + order[:1], parts[position], order[1:])) for position in sorted(parts)))


def plain_depth(tree):
    """Return the depth of a tree."""
    return 0 if tree == LEAF else 1 + max(plain_depth(branch) for _, branch in tree[2])


def all_asks(tree):
    """Return the list of the parts of a tree that ask, each with the way to it: places of branches."""
    if tree == LEAF:
        return []
    found = [((), tree)]
    for at, (_, branch) in enumerate(tree[2]):
        found.extend(((at,) + way, part) for way, part in all_asks(branch))
    return found


def put_in(tree, way, part):
    """Return a tree with another part at a way."""
    if not way:
        return part
    at = way[0]
    branch = (tree[2][at][0], put_in(tree[2][at][1], way[1:], part))
    return (tree[0], tree[1], tree[2][:at] + (branch,) + tree[2][at + 1:])


def spoiled(tree):
    """Return copies of a tree with one part otherwise, none of which is a tree."""
    found = []
    for way, (kind, index, branches) in all_asks(tree):
        positions = [position for position, _ in branches]
        for at, (position, branch) in enumerate(branches):
            found.append(put_in(tree, way, (kind, index, branches[:at] + branches[at + 1:])))
            found.append(put_in(tree, way, (kind, index, branches[:at + 1] + branches[at:])))
            for other in [number for number in range(-2, positions[-1] + 3) if number not in positions] + [str(position)]:
                found.append(put_in(tree, way, (kind, index, branches[:at] + ((other, branch),) + branches[at + 1:])))
            if branch != LEAF:
                again = put_in(branch, (), (kind, index, branch[2]))
                found.append(put_in(tree, way, (kind, index, branches[:at] + ((position, again),) + branches[at + 1:])))
        if len(branches) > 1:
            found.append(put_in(tree, way, (kind, index, branches[::-1])))
        found.append(put_in(tree, way, (kind, index, list(branches))))
        found.append(put_in(tree, way, (kind, index, ())))
        found.append(put_in(tree, way, (kind, 9, branches)))
        found.append(put_in(tree, way, (kind, -1, branches)))
        found.append(put_in(tree, way, (kind, index, branches, ())))
        found.append(put_in(tree, way, ("leaf", index, branches)))
        found.append(put_in(tree, way, ("leaf", LEAF)))
        found.append(put_in(tree, way, ("ask",)))
    return found


class LeastTest(unittest.TestCase):

    def test_the_example(self):
        asks = (BEST, WORST, B)
        self.assertEqual([fewest_asks(PAIR, asks, A, most) for most in (2, 3)], [None, 3])
        self.assertIs(is_finding(PAIR, asks, A, EXAMPLE), True)
        self.assertEqual(walk_tree(PAIR, asks, EXAMPLE, {"a": (4,), "b": (7,)}), [(2, 7), (0, 7), (1, 4)])
        self.assertEqual(told_by_way(PAIR, asks, A, [(2, 7), (0, 7), (1, 4)]), ("sure", 4))

    def test_against_all_trees(self):
        depths = []
        four = (CELLS + (("d", 1, 1),), tuple(("rank", (name,), 1) for name in "abcd"))
        second = ("rank", ("a", "b", "c", "d"), 2)
        for (house, asks), formula in list(itertools.product(SAMPLES, FORMULAS)) + [(four, second)]:
            if formula != LOW or house == CELLS:
                plain = Plain(house, asks, formula)
                least = plain.fewest((), plain.values, 4)
                depths.append(least)
                for most in range(5):
                    tree = least_tree(house, asks, formula, most)
                    expected = None if least is None or least > most else least
                    self.assertEqual(fewest_asks(house, asks, formula, most), expected, (house, asks, formula, most))
                    self.assertIs(tree is None, expected is None)
                    if tree is not None:
                        self.check_tree(plain, tree, least)
        self.assertEqual(set(depths), {None, 0, 1, 2, 3, 4})

    def check_tree(self, plain, tree, depth):
        house, asks, formula = plain.house, plain.asks, plain.formula
        self.assertEqual([plain_depth(tree), tree_depth(tree)], [depth, depth])
        self.assertIs(plain.is_tree(tree, (), plain.values), True)
        self.assertIs(plain.is_finding(tree, (), plain.values), True)
        self.assertEqual([is_tree(house, asks, tree), is_finding(house, asks, formula, tree)], [True, True])

    def test_a_formula_that_is_one_value_in_all_tables(self):
        for house, asks in SAMPLES[:6]:
            for most in range(5):
                self.assertEqual(least_tree(house, asks, NEVER, most), LEAF)
                self.assertEqual(fewest_asks(house, asks, NEVER, most), 0)

    def test_more_asks_are_needed(self):
        self.assertEqual([least_tree(PAIR, (BEST, WORST), A, most) for most in range(5)], [None] * 5)
        self.assertEqual([least_tree(PAIR, (A,), A, most) for most in (0, 1)], [None, ("ask", 0, ((0, LEAF),))])
        singles = tuple(("rank", (name,), 1) for name in "abcde")
        five = tuple((name, 1, 1) for name in "abcde")
        worst = ("rank", ("a", "b", "c", "d", "e"), 5)
        self.assertEqual([least_tree(five, singles, worst, most) for most in range(5)], [None] * 5)
        self.assertEqual(fewest_asks(five, singles[:4], ("rank", ("a", "b", "c", "d"), 2), 4), 4)

    def test_open_sorts(self):
        tree = least_tree(OPEN, (TWO_B, BEST, B), ("kth", 2, (B, BEST)), 4)
        self.assertEqual([tree_depth(tree), is_finding(OPEN, (TWO_B, BEST, B), ("kth", 2, (B, BEST)), tree)], [1, True])
        self.assertEqual(least_tree(OPEN, (A,), B, 4), None)

    def test_six_asks(self):
        asks = (WORST, BEST, A, TWO_B, B, TOP)
        for formula in (A, ("kth", 2, (A, B, TWO_B)), WORST):
            tree = least_tree(MIXED, asks, formula, 4)
            self.assertIs(is_finding(MIXED, asks, formula, tree), True)
            self.assertIs(least_tree(MIXED, asks, formula, tree_depth(tree) - 1), None)


class IsTreeTest(unittest.TestCase):

    def trees_of(self, house, asks, formula):
        plain = Plain(house, asks, formula)
        orders = [order for size in range(len(asks) + 1) for order in itertools.permutations(range(len(asks)), size)]
        return plain, [plain.full_tree((), plain.values, order) for order in orders]

    def test_trees_that_ask_all(self):
        seen = {True: 0, False: 0}
        for house, asks in SAMPLES:
            for formula in (A, WORST) if len(asks) < 4 else (A,):
                plain, trees = self.trees_of(house, asks, formula)
                for tree in trees:
                    self.assertIs(is_tree(house, asks, tree), True, tree)
                    expected = plain.is_finding(tree, (), plain.values)
                    self.assertIs(is_finding(house, asks, formula, tree), expected, tree)
                    self.assertEqual(tree_depth(tree), plain_depth(tree))
                    seen[expected] += 1
        self.assertGreater(min(seen.values()), 20)

    def test_a_leaf_where_a_tree_should_be(self):
        seen = {True: 0, False: 0}
        for house, asks in SAMPLES[:9]:
            plain, trees = self.trees_of(house, asks, A)
            for tree in trees:
                for way, _ in all_asks(tree):
                    cut = put_in(tree, way, LEAF)
                    self.assertIs(is_tree(house, asks, cut), True)
                    expected = plain.is_finding(cut, (), plain.values)
                    self.assertIs(is_finding(house, asks, A, cut), expected)
                    seen[expected] += 1
        self.assertGreater(min(seen.values()), 20)

    def test_one_part_otherwise(self):
        many = 0
        for house, asks in SAMPLES:
            plain, trees = self.trees_of(house, asks, A)
            for tree in trees[1::4] + trees[-1:]:
                for thing in spoiled(tree)[::1 if len(asks) < 4 else 9]:
                    self.assertIs(is_tree(house, asks, thing), False, (tree, thing))
                    self.assertIs(is_finding(house, asks, A, thing), False)
                    many += 1
        self.assertGreater(many, 2000)

    def test_other_kinds_of_parts(self):
        for thing in broken(EXAMPLE):
            self.assertIs(is_tree(PAIR, (BEST, WORST, B), thing), repr(thing) == repr(EXAMPLE), thing)
            self.assertIs(is_finding(PAIR, (BEST, WORST, B), A, thing), False)
        for thing in ODD_VALUES:
            self.assertIs(is_tree(PAIR, (BEST, WORST), thing), False)
            self.assertIs(is_finding(PAIR, (BEST, WORST), NEVER, thing), False)

    def test_parts_that_are_too_many_or_too_few(self):
        self.assertIs(is_tree(PAIR, (A, B), ("ask", 1, ((0, LEAF),))), True)
        for thing in (("ask", 2, ((0, LEAF),)), ("ask", -1, ((0, LEAF),)), ("ask", 1, ((0, LEAF, LEAF),)), ("ask", 1, ((0,),)),
                      ("ask", 1, ((),)), ("ask", 1, (0, LEAF)), ("ask", 1, ((0, LEAF), (0, LEAF)))):
            self.assertIs(is_tree(PAIR, (A, B), thing), False, thing)
            self.assertIs(is_finding(PAIR, (A, B), B, thing), False, thing)

    def test_truths_in_the_place_of_integers(self):
        tree = ("ask", 0, ((0, ("ask", 1, ((0, LEAF), (1, LEAF), (2, LEAF)))),))
        self.assertIs(is_tree(PAIR, (A, B), tree), True)
        for thing in (("ask", False, tree[2]), ("ask", 0, ((False, tree[2][0][1]),)),
                      ("ask", 0, ((0, ("ask", True, tree[2][0][1][2])),)),
                      ("ask", 0, ((0, ("ask", 1, ((0, LEAF), (True, LEAF), (2, LEAF)))),))):
            self.assertEqual(thing, tree)
            self.assertIs(is_tree(PAIR, (A, B), thing), False)
            self.assertIs(is_finding(PAIR, (A, B), A, thing), False)

    def test_no_ask_is_asked_twice_on_a_way(self):
        once = ("ask", 0, ((0, LEAF),))
        self.assertIs(is_tree(PAIR, (A, A), once), True)
        self.assertIs(is_tree(PAIR, (A, A), ("ask", 0, ((0, ("ask", 0, ((1, LEAF),))),))), False)
        self.assertIs(is_tree(PAIR, (A, A), ("ask", 0, ((0, ("ask", 1, ((1, LEAF),))),))), True)
        self.assertIs(is_tree(PAIR, (A, A), ("ask", 1, ((0, ("ask", 0, ((1, LEAF),))),))), True)

    def test_leaves_alone(self):
        self.assertEqual([is_tree(PAIR, (), LEAF), is_finding(PAIR, (), A, LEAF), is_finding(PAIR, (), NEVER, LEAF)],
                         [True, False, True])
        for thing in (["leaf"], ("leaf", 1), "leaf", (), ("Leaf",), (LEAF,)):
            self.assertIs(is_tree(PAIR, (), thing), False)


class WalkTest(unittest.TestCase):

    def test_walks_of_all_tables(self):
        for house, asks in SAMPLES:
            plain = Plain(house, asks, A)
            for order in list(itertools.permutations(range(len(asks))))[::3]:
                tree = plain.full_tree((), plain.values, order)
                for table in tables_of(house)[1][::5]:
                    self.assertEqual(walk_tree(house, asks, tree, table), [(k, value_of(house, table, asks[k])) for k in order])
        self.assertEqual(walk_tree(PAIR, (A,), LEAF, {"a": (1,), "b": (2,)}), [])

    def test_it_goes_by_the_answers(self):
        asks = (BEST, WORST, B)
        for table in tables_with(PAIR, (-BIG, -1, 0, 1, 2, BIG)):
            way = walk_tree(PAIR, asks, EXAMPLE, table)
            self.assertEqual([k for k, _ in way], [2, 0] if table["a"] > table["b"] else [2, 0, 1])
            self.assertEqual([value for _, value in way], [value_of(PAIR, table, asks[k]) for k, _ in way])
            self.assertEqual(told_by_way(PAIR, asks, A, way), ("sure", table["a"][0]))

    def test_nothing_as_a_value(self):
        asks = (BEST, B, WORST)
        tree = ("ask", 0, ((-1, LEAF), (0, ("ask", 1, ((-1, LEAF), (0, ("ask", 2, ((1, LEAF), (2, LEAF), (3, LEAF)))), (
            1, ("ask", 2, ((-1, LEAF), (0, LEAF), (1, LEAF)))))))))
        self.assertIs(is_tree(LOOSE, asks, tree), True)
        for table, expected in (
                ({"a": (), "b": ()}, [(0, None)]), ({"a": (5,), "b": ()}, [(0, 5), (1, None)]),
                ({"a": (), "b": (5,)}, [(0, 5), (1, 5), (2, None)]), ({"a": (2, 5), "b": (5,)}, [(0, 5), (1, 5), (2, 5)]),
                ({"a": (-BIG, BIG), "b": (0,)}, [(0, BIG), (1, 0), (2, 0)])):
            self.assertEqual(walk_tree(LOOSE, asks, tree, table), expected)

    def test_the_tree_and_the_table_stay(self):
        table = {"b": (7,), "a": (4,)}
        first = walk_tree(PAIR, (BEST, WORST, B), EXAMPLE, table)
        first.clear()
        self.assertEqual(walk_tree(PAIR, (BEST, WORST, B), EXAMPLE, table), [(2, 7), (0, 7), (1, 4)])
        self.assertEqual([table, list(table)], [{"a": (4,), "b": (7,)}, ["b", "a"]])


class WayTest(unittest.TestCase):

    def test_ways_of_tables(self):
        seen = set()
        for (house, asks), formula in itertools.product(SAMPLES, FORMULAS[:5]):
            plain = Plain(house, asks, formula)
            for order in [order for size in range(len(asks) + 1) for order in itertools.permutations(range(len(asks)), size)][::3]:
                for values in sorted(set(plain.values), key=repr)[::4]:
                    way = [(k, values[k]) for k in order]
                    expected = ("open",)
                    if plain.is_sure(order, values):
                        expected = ("sure", list(plain.found[order][tuple(values[k] for k in order)])[0])
                    self.assertEqual(told_by_way(house, asks, formula, way), expected, (house, asks, formula, way))
                    seen.add(expected[0] + str(expected[1:] == (None,)))
        self.assertEqual(seen, {"openFalse", "sureFalse", "sureTrue"})

    def test_ways_that_no_table_has(self):
        asks = (BEST, WORST, B)
        for way in ([(0, 2), (1, 5)], [(0, None)], [(0, 2), (2, 3)], [(0, 2), (1, 1), (2, 0)], [(0, 2), (0, 3)], [(2, None)]):
            for formula in (A, NEVER):
                self.assertIs(told_by_way(PAIR, asks, formula, way), None)
        self.assertEqual(told_by_way(PAIR, asks, A, [(0, 2), (0, 2)]), ("open",))

    def test_the_empty_way(self):
        self.assertEqual([told_by_way(PAIR, (A,), A, []), told_by_way(PAIR, (A,), NEVER, []), told_by_way(PAIR, (), NEVER, [])],
                         [("open",), ("sure", None), ("sure", None)])

    def test_against_what_is_told(self):
        asks = (BEST, WORST, B)
        for values in itertools.product((None, 1, 2, BIG), repeat=2):
            found = told_by_way(LOOSE, asks, A, [(0, values[0]), (2, values[1])])
            if found is not None:
                kind, known = told((LOOSE, (), (("is", BEST, values[0]), ("is", B, values[1]))), A)
                self.assertEqual(found, ("sure", known) if kind == "sure" else ("open",))


class TooManyTest(unittest.TestCase):

    def check(self, most, call, *arguments):
        with self.assertRaises(TooMany) as caught:
            call(*arguments)
        self.assertEqual(caught.exception.most, most)

    def calls(self, house, asks, formula):
        return ((least_tree, house, asks, formula, 1), (fewest_asks, house, asks, formula, 0), (is_tree, house, asks, LEAF),
                (is_finding, house, asks, formula, None), (walk_tree, house, asks, LEAF, {"a": (), "b": (), "c": ()}),
                (told_by_way, house, asks, formula, []))

    def test_seven_asks_ahead_of_all_else(self):
        for call in self.calls(THREE, (A,) * 7, DEEP) + self.calls(THREE, (DEEP,) * 7, A):
            self.check(6, *call)
        for call in self.calls(THREE, (A,) * 6, A):
            call[0](*call[1:])

    def test_more_than_200_counts(self):
        for call in self.calls(THREE, (A, DEEP), A):
            self.check(200, *call)
        for call in self.calls(THREE, (A,) * 6, DEEP):
            if call[0] in (is_tree, walk_tree):
                call[0](*call[1:])
            else:
                self.check(200, *call)
        # The asks that are not on the way count, too.
        self.check(200, told_by_way, THREE, (A, DEEP), A, [(0, 5)])
        just = (("a", 0, 9), ("b", 0, 9), ("c", 0, 1))
        asks = (("rank", ("a", "b"), 9), A)
        self.assertEqual([is_tree(just, asks, LEAF), least_tree(just, asks, asks[0], 1) is None], [True, False])

    def test_the_depth_of_a_tree_is_always_told(self):
        tree = LEAF
        for index in range(20):
            tree = ("ask", index, ((0, tree), (1, LEAF)))
            self.assertEqual(tree_depth(tree), index + 1)


if __name__ == "__main__":
    unittest.main()
