"""Where the values of two formulas can lie together, and whether a further fact is kept."""

from countsfall.ladders import ladder_sets
from countsfall.levels import rungs_of
from countsfall.sure import all_places, come_at, held_ahead, lead_at
from countsfall.walks import fitting_walk, table_with_counts
from countsfall.ways import held_in


def joint_places(case, one, other):
    """Return the list of the couples of places in which the values of two formulas lie in one table that fits."""
    walk = fitting_walk(case, (one, other), ())
    ones, others = held_in(walk.grid, one), held_in(walk.grid, other)
    places = all_places(rungs_of(case[2]))
    steps = []
    for step in range(len(places)):
        # In one gap the two values may also be equal, whenever they may be there at all.
        if end_together(walk, ones, others, step):
            steps.append((step, step))
        steps.extend([(step, later) for later in later_ends(walk, ones, others, step)])
        steps.extend([(later, step) for later in later_ends(walk, others, ones, step)])
    couples = [(places[low], places[high]) for low, high in sorted(steps)]
    return [couple for couple in couples if couple[0] is not None and couple[1] is not None]


def end_together(walk, ones, others, step):
    """Return whether what is in ones and what is in others can both end just ahead of a step."""
    grid = walk.grid
    behind = grid.without(lead_at(walk, step), ones | others)
    return grid.below(held_ahead(walk, ones & others, step)) & behind > 0


def later_ends(walk, first, last, step):
    """Return the list of the later steps ahead of which what is in last can end if what is in first ends at a step."""
    grid = walk.grid
    found = grid.without(grid.below(held_ahead(walk, first, step)) & come_at(walk, step), first)
    later_steps = []
    for later in range(step + 1, 2 * len(walk.reached)):
        behind = grid.without(lead_at(walk, later), last)
        if grid.below(found & last) & behind > 0:
            later_steps.append(later)
        found = grid.below(found) & come_at(walk, later)
    return later_steps


def is_kept(case, fact):
    """Return whether all tables that fit a case keep a further fact."""
    return breaking_table(case, fact) is None


def breaking_table(case, fact):
    """Return a table that fits a case and does not keep a further fact, None if there is none."""
    walk = fitting_walk(case, fact, ())
    rungs = rungs_of(case[2])
    keeping = ladder_sets(walk.grid, (case[0], (fact,), ()), rungs)
    for level, found in enumerate(walk.occurring):
        breaking = walk.grid.without(found, keeping[level])
        if breaking > 0:
            return table_with_counts(walk, rungs, level, walk.grid.first(breaking))
    return None
