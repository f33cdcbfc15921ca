"""Which counts the tables that fit a case come to, level by level, and how it shows that no table fits."""

from countsfall.counts import Grid, least_sizes, within
from countsfall.errors import NoTable
from countsfall.falls import table_of
from countsfall.forms import is_counts
from countsfall.ladders import fact_formulas, ladder_sets
from countsfall.levels import checked_caps, rungs_of


class Walk:
    """What becomes of counts that fall from starts through levels, each told by a set of the counts of a grid.

    For each level `reached` has the set of what is come to, `leading` of what leads on to the last level, and
    `occurring` of what does both: what some table has that goes through all levels.
    """

    def __init__(self, grid, levels):
        self.grid = grid
        self.starts = grid.starts & levels[0]
        self.reached = []
        found = self.starts
        for level in levels:
            found = grid.below(found) & level
            self.reached.append(found)
        self.leading = []
        found = grid.full
        for level in reversed(levels):
            found = grid.above(found) & level
            self.leading.insert(0, found)
        self.occurring = [reached & leading for reached, leading in zip(self.reached, self.leading)]


def walk_by(case, formulas, answers):
    """Return the walk through the ladder of a case; further formulas and answers count for its caps and levels."""
    grid = Grid(case[0], checked_caps(case[0], fact_formulas(case) + formulas, case[2] + answers))
    return Walk(grid, ladder_sets(grid, case, rungs_of(case[2] + answers)))


def fitting_walk(case, formulas, answers):
    """Return what walk_by does; raise NoTable if no table fits the case."""
    walk = walk_by(case, formulas, answers)
    if walk.reached[-1] == 0:
        raise NoTable(cut_of(case))
    return walk


def starts_of(case):
    """Return the ascending list of the starts of a case."""
    walk = walk_by(case, (), ())
    return walk.grid.listed(walk.starts)


def come_to(case):
    """Return the list that has for each level the ascending list of the counts that are come to."""
    walk = walk_by(case, (), ())
    return [walk.grid.listed(found) for found in walk.reached]


def chain_to(walk, level, counts):
    """Return the list of a start, then counts for each level, falling to counts that are come to at a level."""
    grid = walk.grid
    chain = [counts]
    for found in reversed([walk.starts] + walk.reached[:level]):
        chain.insert(0, grid.first(found & grid.above(grid.set_of(chain[0]))))
    return chain


def chain_from(walk, level, counts):
    """Return the list of counts for each further level, falling from counts of a level that lead to the last one."""
    grid = walk.grid
    chain = []
    for found in walk.leading[level + 1:]:
        counts = grid.first(found & grid.below(grid.set_of(counts)))
        chain.append(counts)
    return chain


def table_with_counts(walk, rungs, level, counts):
    """Return a table that goes through all levels, by rungs, and has counts that occur at a level somewhere in it."""
    house = walk.grid.house
    start, *chain = chain_to(walk, level, counts) + chain_from(walk, level, counts)
    # Level 0 has numbers below its rung, and the last one such above all rungs.
    numbers = [rungs[0] - 1] + rungs + [rungs[-1] + 1] if rungs else [0, 1]
    return table_of(house, tuple(zip(numbers, [least_sizes(house, start)] + chain)))


def table_with_numbers(walk, numbers):
    """Return a table that goes through all levels, and changes from each one to the next at these numbers alone.

    They are the greatest ones of all levels but the last, or any number if this is the only one.
    """
    house = walk.grid.house
    start, _, *chain = chain_to(walk, len(walk.reached) - 1, (0,) * len(house))
    # All rows of the start are still there at the first number, and none above the last one.
    return table_of(house, tuple(zip(numbers, [least_sizes(house, start)] + chain[:-1])))


def a_table(case):
    """Return a table that fits and has no other numbers than rungs, or 0 alone if there are none; None if none fits."""
    walk = walk_by(case, (), ())
    rungs = rungs_of(case[2])
    if walk.reached[-1] == 0:
        return None
    return table_with_numbers(walk, rungs if rungs else [0])


def cut_of(case):
    """Return a cut of a case, None if some table fits it."""
    walk = walk_by(case, (), ())
    if walk.reached[-1] > 0:
        return None
    return [walk.grid.listed(found) for found in walk.reached]


def are_listed(grid, thing):
    """Return whether thing is a list of counts of a grid, perhaps with some more than once."""
    if not isinstance(thing, list):
        return False
    return all([is_counts(grid.house, counts) and within(counts, grid.limits) for counts in thing])


def has_all_from_starts(grid, levels, found):
    """Return whether found, a list of a set for each level, has all that is come to from the starts and from it."""
    ahead = grid.starts & levels[0]
    for level, part in zip(levels, found):
        if grid.without(grid.below(ahead) & level, part) > 0:
            return False
        ahead = part
    return True


def is_cut(case, thing):
    """Return whether thing is a cut of the case."""
    house, _, answers = case
    grid = Grid(house, checked_caps(house, fact_formulas(case), answers))
    levels = ladder_sets(grid, case, rungs_of(answers))
    if not isinstance(thing, list) or len(thing) != len(levels):
        return False
    if not all([are_listed(grid, part) and len(set(part)) == len(part) for part in thing]):
        return False
    return thing[-1] == [] and has_all_from_starts(grid, levels, [grid.set_of_all(part) for part in thing])
