"""Whether asks tell a formula in one table, or in some."""

from countsfall.always import asks_grid
from countsfall.patterns import rows_by, table_by
from countsfall.sure import is_sure, table_with, told
from countsfall.tables import value_of
from countsfall.walks import Walk
from countsfall.ways import held_in, helds_in, sets_by


def case_in(house, asks, table):
    """Return the case in which the asks have the same values as in a table."""
    return (house, (), tuple([("is", ask, value_of(house, table, ask)) for ask in asks]))


def is_told_in(house, asks, formula, table):
    """Return whether asks tell a formula in a table."""
    return told(case_in(house, asks, table), formula)[0] == "sure"


def apart_in(house, asks, formula, table):
    """Return a table with the same values of asks as this one and another one of a formula, None if it is told."""
    case = case_in(house, asks, table)
    kind, found = told(case, formula)
    if kind == "sure":
        return None
    own = value_of(house, table, formula)
    others = [value for place in found for value in some_values(place) if value != own]
    return table_with(case, formula, others[0])


def some_values(place):
    """Return the list of one value in a place, of two for a gap without bounds."""
    if place[0] != "gap":
        return [None if place[0] == "none" else place[1]]
    _, low, high = place
    if low is None and high is None:
        return [0, 1]
    return [high - 1 if low is None else low + 1]


def sure_rows(grid, helds, held):
    """Return the ascending list of the rows of patterns in whose tables a formula is told.

    The asks hold at the counts in helds, a set for each, the formula at those in held.
    """
    sets = sets_by(grid, helds)
    return [row for row in rows_by(grid, sets) if is_sure(Walk(grid, [sets[pattern] for pattern in row]), held)]


def told_rows(house, asks, formula):
    """Return the ascending list of the rows of patterns in whose tables asks tell a formula."""
    grid = asks_grid(house, asks, formula)
    return sure_rows(grid, helds_in(grid, asks), held_in(grid, formula))


def tells_sometimes(house, asks, formula):
    """Return a table with as few different numbers as can be in which asks tell a formula, None if there is none."""
    rows = told_rows(house, asks, formula)
    return table_by(house, asks, min(rows, key=len)) if rows else None
