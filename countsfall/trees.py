"""Trees: asks that are asked one after the other, by what was answered."""

from countsfall.counts import Grid
from countsfall.errors import NoTable, TooMany
from countsfall.forms import is_integer
from countsfall.levels import checked_caps, level_of
from countsfall.sure import are_sure, levels_behind, told
from countsfall.tables import value_of
from countsfall.walks import Walk
from countsfall.ways import held_in, helds_in

MOST_ASKS = 6
LEAF = ("leaf",)


class Asking:
    """What can be answered to asks one after the other, and the trees that find a formula by it.

    The tables in which the answers have led to some positions are told by levels, a tuple of sets of counts: those that
    occur in them at the numbers up to the least one that was answered, then up to the next one, and so on.
    """

    def __init__(self, house, asks, formulas):
        if len(asks) > MOST_ASKS:
            raise TooMany(MOST_ASKS)
        self.grid = Grid(house, checked_caps(house, asks + formulas, ()))
        self.helds = helds_in(self.grid, asks)
        self.root = tuple(Walk(self.grid, [self.grid.full]).occurring)
        # By levels and a depth: the tree that was found there, or None.
        self.known = {}

    def branches(self, levels, index):
        """Return the list of (position, levels behind it) for all positions that the answer to an ask has."""
        found = []
        for step in range(2 * len(levels)):
            walk = Walk(self.grid, levels_behind(self.grid, levels, self.helds[index], step))
            if walk.reached[-1] > 0:
                found.append((step - 1, tuple(walk.occurring)))
        return found

    def leaves(self, thing, levels, asked):
        """Return the list of the levels at all leaves of thing, None if it is no tree that asks none of asked."""
        if thing == LEAF:
            return [levels]
        if not self.is_ask(thing) or thing[1] in asked:
            return None
        ahead = self.branches(levels, thing[1])
        if [branch[0] for branch in thing[2]] != [position for position, _ in ahead]:
            return None
        found = []
        for branch, (_, next_levels) in zip(thing[2], ahead):
            leaves = self.leaves(branch[1], next_levels, asked + (thing[1],))
            if leaves is None:
                return None
            found.extend(leaves)
        return found

    def is_ask(self, thing):
        """Return whether thing is a tuple that asks an ask and has a tuple of branches, whatever these have behind."""
        if not isinstance(thing, tuple) or len(thing) != 3 or thing[0] != "ask" or not is_integer(thing[1]):
            return False
        if not 0 <= thing[1] < len(self.helds) or not isinstance(thing[2], tuple):
            return False
        return all([isinstance(branch, tuple) and len(branch) == 2 and is_integer(branch[0]) for branch in thing[2]])

    def tree_within(self, levels, held, depth):
        """Return a tree of at most this depth that finds the formula that holds in held, None if there is none."""
        key = (levels, depth)
        if key not in self.known:
            self.known[key] = LEAF if are_sure(levels, held) else self.first_tree(levels, held, depth)
        return self.known[key]

    def first_tree(self, levels, held, depth):
        """Return what tree_within does, for a formula that is not sure."""
        if depth == 0:
            return None
        for index, asked in enumerate(self.helds):
            # What is sure, such as what was asked, tells nothing further.
            if not are_sure(levels, asked):
                tree = self.tree_asking(index, levels, held, depth)
                if tree is not None:
                    return tree
        return None

    def tree_asking(self, index, levels, held, depth):
        """Return what tree_within does, but only a tree that begins with this ask."""
        found = []
        for position, next_levels in self.branches(levels, index):
            tree = self.tree_within(next_levels, held, depth - 1)
            if tree is None:
                return None
            found.append((position, tree))
        return ("ask", index, tuple(found))


def least_tree(house, asks, formula, most):
    """Return a tree of the least depth that finds a formula, None if none has a depth of at most most."""
    asking = Asking(house, asks, (formula,))
    held = held_in(asking.grid, formula)
    for depth in range(most + 1):
        tree = asking.tree_within(asking.root, held, depth)
        if tree is not None:
            return tree
    return None


def fewest_asks(house, asks, formula, most):
    """Return the depth of the least tree that finds a formula, None if it is greater than most."""
    tree = least_tree(house, asks, formula, most)
    return None if tree is None else tree_depth(tree)


def is_tree(house, asks, thing):
    """Return whether thing is a tree of the asks."""
    asking = Asking(house, asks, ())
    return asking.leaves(thing, asking.root, ()) is not None


def is_finding(house, asks, formula, thing):
    """Return whether thing is a tree of the asks that finds a formula."""
    asking = Asking(house, asks, (formula,))
    held = held_in(asking.grid, formula)
    leaves = asking.leaves(thing, asking.root, ())
    return leaves is not None and all([are_sure(levels, held) for levels in leaves])


def tree_depth(tree):
    """Return the greatest number of asks on a way of a tree."""
    if tree == LEAF:
        return 0
    return 1 + max([tree_depth(branch) for _, branch in tree[2]])


def position_of(known, value):
    """Return the position of an answer by the ascending list of the integers that were answered ahead of it."""
    if value is None:
        return -1
    lesser = level_of(known, value)
    return 2 * lesser + 1 if value in known else 2 * lesser


def walk_tree(house, asks, tree, table):
    """Return the list of (index, value) of the asks on the way that a table leads through a tree."""
    # For what it raises alone.
    Asking(house, asks, ())
    way = []
    while tree != LEAF:
        _, index, further = tree
        value = value_of(house, table, asks[index])
        position = position_of(sorted({known for _, known in way if known is not None}), value)
        way.append((index, value))
        tree = [branch for told_position, branch in further if told_position == position][0]
    return way


def told_by_way(house, asks, formula, way):
    """Return ("sure", value) or ("open",) for a formula in the tables with these values of asks, None if none has."""
    # For what it raises alone.
    Asking(house, asks, (formula,))
    answers = tuple([("is", asks[index], value) for index, value in way])
    try:
        kind, found = told((house, (), answers), formula)
    except NoTable:
        return None
    return ("sure", found) if kind == "sure" else ("open",)
