"""At which counts a formula holds, told by the least ones among them."""

from countsfall.counts import all_counts, rows_of_lot, within
from countsfall.forms import is_counts
from countsfall.houses import names_of
from countsfall.levels import checked_caps


def holds(house, formula, counts):
    """Return whether a formula holds at counts."""
    if formula[0] == "rank":
        _, lot, k = formula
        return rows_of_lot(house, lot, counts) >= k
    _, k, formulas = formula
    return len([part for part in formulas if holds(house, part, counts)]) >= k


def held_in(grid, formula):
    """Return the set of those counts of a grid at which a formula holds."""
    return grid.where([holds(grid.house, formula, counts) for counts in grid.counts])


def helds_in(grid, formulas):
    """Return the list that has for each formula the set of those counts of a grid at which it holds."""
    return [held_in(grid, formula) for formula in formulas]


def sets_by(grid, helds):
    """Return the dict from each pattern, ascending, to the set of the counts of a grid that have it, if there are any.

    A pattern tells of each of helds, sets of counts, whether counts are in it.
    """
    sets = {(): grid.full}
    for held in helds:
        finer = {}
        for pattern in sets:
            for truth, found in ((False, grid.without(sets[pattern], held)), (True, sets[pattern] & held)):
                if found > 0:
                    finer[pattern + (truth,)] = found
        sets = finer
    return sets


def least_of(found):
    """Return those of an ascending list of counts that no other ones of it are within."""
    least = []
    for counts in found:
        if not holds_by(least, counts):
            least.append(counts)
    return least


def ways_within(house, formula, caps):
    """Return the ascending list of the ways of a formula that are within caps."""
    return least_of([counts for counts in all_counts(caps) if holds(house, formula, counts)])


def ways_of(house, formula):
    """Return the ascending list of the ways of a formula."""
    return ways_within(house, formula, checked_caps(house, (formula,), ()))


def are_ways(house, thing):
    """Return whether thing is ways of the house."""
    if not isinstance(thing, tuple) or not all([is_counts(house, way) for way in thing]):
        return False
    if len(thing) == 0:
        return any([sort[2] is not None for sort in house])
    if not any(thing[0]) or not all([one < other for one, other in zip(thing, thing[1:])]):
        return False
    # Counts come behind those within them, so none in an ascending tuple is within one ahead of it.
    return least_of(thing) == list(thing)


def holds_by(ways, counts):
    """Return whether some way is within counts."""
    for way in ways:
        if within(way, counts):
            return True
    return False


def ways_formula(house, ways):
    """Return the told form of ways."""
    if len(ways) == 0:
        return never_formula(house)
    formulas = [way_formula(house, way) for way in ways]
    return formulas[0] if len(formulas) == 1 else ("kth", 1, tuple(formulas))


def way_formula(house, way):
    """Return the told form of one way."""
    ranks = [("rank", (name,), many) for name, many in zip(names_of(house), way) if many > 0]
    return ranks[0] if len(ranks) == 1 else ("kth", len(ranks), tuple(ranks))


def never_formula(house):
    """Return the formula of all sorts that are not open that asks for one row more than they can have."""
    sorts = [sort for sort in house if sort[2] is not None]
    return ("rank", names_of(sorts), 1 + sum([sort[2] for sort in sorts]))
