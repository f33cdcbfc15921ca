"""Extracts: lists of counts from both ends of a ladder that show the value of a formula."""

from countsfall.counts import Grid
from countsfall.errors import NotSure
from countsfall.forms import is_integer
from countsfall.ladders import fact_formulas, ladder_sets
from countsfall.levels import checked_caps, level_of, rungs_of
from countsfall.sure import is_sure, places_of
from countsfall.walks import are_listed, fitting_walk, has_all_from_starts, walk_by
from countsfall.ways import held_in


def occurring(case):
    """Return the list that has for each level the ascending list of the counts that tables that fit have there."""
    walk = walk_by(case, (), ())
    return [walk.grid.listed(found) for found in walk.occurring]


def extract_of(case, formula):
    """Return an extract that shows the value of a formula."""
    walk = fitting_walk(case, (formula,), ())
    grid = walk.grid
    if not is_sure(walk, held_in(grid, formula)):
        raise NotSure(places_of(case, formula))
    downs = [grid.listed(found) for found in walk.reached]
    return (downs, [grid.listed(found) for found in walk.leading])


def are_levels(grid, many, thing):
    """Return whether thing is a list of so many lists of counts of a grid."""
    return isinstance(thing, list) and len(thing) == many and all([are_listed(grid, part) for part in thing])


def set_of_listed(grid, some):
    """Return the set of the counts in a list."""
    found = 0
    for counts in some:
        found = found | grid.set_of(counts)
    return found


def has_all_to_end(grid, levels, found):
    """Return whether found, a list of a set for each level, has all that leads to the last level and to it."""
    behind = found[1:] + [grid.full]
    leading = [grid.above(later) & level for later, level in zip(behind, levels)]
    return all([grid.without(lead, part) == 0 for lead, part in zip(leading, found)])


def shows(case, formula, value, thing):
    """Return whether value is a rung or None, and thing an extract that shows it."""
    house, _, answers = case
    grid = Grid(house, checked_caps(house, fact_formulas(case) + (formula,), answers))
    rungs = rungs_of(answers)
    levels = ladder_sets(grid, case, rungs)
    if value is not None and not (is_integer(value) and value in rungs):
        return False
    if not isinstance(thing, tuple) or len(thing) != 2:
        return False
    if not all([are_levels(grid, len(levels), part) for part in thing]):
        return False
    downs, ups = [[set_of_listed(grid, some) for some in part] for part in thing]
    if not has_all_from_starts(grid, levels, downs) or not has_all_to_end(grid, levels, ups):
        return False
    return is_shown(held_in(grid, formula), 0 if value is None else level_of(rungs, value) + 1, downs, ups)


def is_shown(held, many, downs, ups):
    """Return whether what stands in both is in held at so many first levels, and nothing of it at all further ones."""
    both = [down & up for down, up in zip(downs, ups)]
    return all([found & held == found for found in both[:many]]) and not any([found & held for found in both[many:]])
