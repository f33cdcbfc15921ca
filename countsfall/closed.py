"""All that asks tell always of the tables of a firm house."""

from countsfall.counts import Grid, firm_sizes
from countsfall.errors import TooMany
from countsfall.ways import held_in, helds_in, sets_by

MOST_TOLD = 500


def classes_by(grid, asks):
    """Return the list of the sets of counts at which the same of asks hold.

    It ascends by what holds there: none has counts within which there are such of a later one. The zero counts are in
    the first one.
    """
    return list(sets_by(grid, helds_in(grid, asks)).values())


def is_upward(grid, found):
    """Return whether all that some of found are within is in found, as it is of the counts at which a formula holds."""
    return grid.above(found) == found


def all_told(house, asks):
    """Return the ascending list of the ways of all formulas that asks tell always."""
    grid = Grid(house, firm_sizes(house))
    found = [0]
    for members in reversed(classes_by(grid, asks)[1:]):
        found = found + [held | members for held in found if is_upward(grid, held | members)]
        # What is found stays: there are at least so many.
        if len(found) > MOST_TOLD:
            raise TooMany(MOST_TOLD)
    return sorted([tuple(grid.least(held)) for held in found])


def bounds_told(house, asks, formula):
    """Return the ways of the greatest told formula never above this one, and of the least one it is never above."""
    grid = Grid(house, firm_sizes(house))
    classes = classes_by(grid, asks)
    held = held_in(grid, formula)
    under = 0
    for members in reversed(classes):
        if members & held == members and is_upward(grid, under | members):
            under = under | members
    over = held
    for members in classes:
        if members & over > 0:
            over = over | grid.above(members)
    # No formula holds at the zero counts.
    has_none = over & classes[0] > 0
    return (tuple(grid.least(under)), None if has_none else tuple(grid.least(over)))
