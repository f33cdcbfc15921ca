"""What a case asks of the counts at each level."""

from countsfall.counts import Grid, rows_of_lot
from countsfall.levels import checked_caps, level_of, rungs_of
from countsfall.ways import holds


def is_let(case, level, counts):
    """Return whether counts are let at a level of a case."""
    return level in let_levels(case, rungs_of(case[2]), counts)


def let_levels(case, rungs, counts):
    """Return the ascending list of the levels at which counts are let."""
    house, facts, answers = case
    for one, other in facts:
        if holds(house, one, counts) and not holds(house, other, counts):
            return []
    levels = list(range(len(rungs) + 1))
    for answer in answers:
        if answer[0] == "is":
            levels = levels_by_value(house, answer, rungs, counts, levels)
        else:
            levels = levels_by_count(house, answer, rungs, counts, levels)
    return levels


def levels_by_value(house, answer, rungs, counts, levels):
    """Return those of levels at which an answer with "is" lets counts."""
    _, formula, value = answer
    held = holds(house, formula, counts)
    if value is None:
        return [] if held else levels
    # Up to this level there are no numbers above the value.
    last = level_of(rungs, value)
    return [level for level in levels if held == (level <= last)]


def levels_by_count(house, answer, rungs, counts, levels):
    """Return those of levels at which an answer with "count" lets counts."""
    _, lot, number, many = answer
    if rows_of_lot(house, lot, counts) == many:
        return levels
    asked = level_of(rungs, number)
    return [level for level in levels if level != asked]


def ladder_of(case):
    """Return the list that has for each level the ascending list of the counts within the caps that are let."""
    house, _, answers = case
    grid = Grid(house, checked_caps(house, fact_formulas(case), answers))
    return [grid.listed(level) for level in ladder_sets(grid, case, rungs_of(answers))]


def fact_formulas(case):
    """Return the tuple of the formulas of the facts of a case."""
    return tuple([formula for fact in case[1] for formula in fact])


def ladder_sets(grid, case, rungs):
    """Return the list that has for each level the set of the counts of a grid that are let.

    Among the rungs, by which the levels are, are those of the case; there may be further ones.
    """
    levels = [0] * (len(rungs) + 1)
    for index, counts in enumerate(grid.counts):
        for level in let_levels(case, rungs, counts):
            levels[level] = levels[level] | (1 << index)
    return levels
